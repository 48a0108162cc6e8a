"""The bounds that hold where the asker names none."""

MOST = 400
BOUND = 60
MOST_TURNS = 2000
MOST_STATES = 2000
