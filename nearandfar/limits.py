"""The limits of tables."""

LEAST_THINGS = 2
MOST_THINGS = 7
MOST_DISTANCE = 1000000
