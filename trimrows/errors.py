"""The program refuses nothing, so it has no errors of its own."""
