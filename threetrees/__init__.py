"""Threetrees: drawings cut into triangles, their arrows, and the three trees in them."""
