"""Healfloor: floors that mend by themselves, or never."""
