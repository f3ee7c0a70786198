"""Stonewalker: webs of rooms that a walker learns by its doors, its way and a stone."""
