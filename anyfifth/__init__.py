"""Anyfifth: what holds on the endless chain of fifths, decided for all fifths at once."""
