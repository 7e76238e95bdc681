"""The numbers that the interface names."""

MAX_STATES = 300
LOST = -1
