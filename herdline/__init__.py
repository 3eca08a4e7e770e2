"""Herds of spots in a plane, a line between two or a spot that both share, and what shows which."""
