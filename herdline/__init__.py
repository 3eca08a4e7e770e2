"""Herds of spots in a plane: their corners, land, spots and farthest places."""
