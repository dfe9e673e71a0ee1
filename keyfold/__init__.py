"""Keyfold: keys that name things by yes and no, folded into rows."""
