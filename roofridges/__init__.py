"""Roofridges: roofs over yards, and what their cuts, strips and crests tell."""
