"""Nearwish: what houses in a ring can say if each sees only what is near."""
