"""What holds of a store where nothing else is handed in."""

RING = 64
STOP = 28
WARN = 20
