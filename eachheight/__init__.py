"""Eachheight: crash-safe layers, checked one at a time."""
