"""What rings and plans are looked for in."""

MOST_LOOKED = 24
