"""Mistakesigns: signs that may be mistaken."""
