"""The greatest numbers that rules and questions may have."""

MOST_PLATES = 10
MOST_AWAY = 2
MOST_DAYS = 6
MOST_TAKEN = 6
MOST_UNDER = 9
MOST_SEEN = 5
MOST_EXCHANGES = 5
