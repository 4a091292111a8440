"""What is done with schemes: other ones made from them, and a bench to work on one."""
