"""Fallcuts: edges that stand on the ground, cut by two by turns."""
