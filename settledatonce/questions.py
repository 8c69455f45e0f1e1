"""The calls that change nothing. Each answers a list of numbers."""

from settledatonce.settling import greatest_set


def ready(house):
    chosen = greatest_set(house)
    return [len(chosen)] + sorted(chosen)
