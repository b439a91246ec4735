"""Allrows: sayings about all rows of signs, decided, with papers."""
