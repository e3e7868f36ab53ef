"""Boughback: deeds taken back, taken out of the midst, and poured together."""
