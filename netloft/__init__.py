"""Netloft: nets of cords, tied by turns, drawn and joined."""
