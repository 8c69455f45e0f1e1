"""What the arguments may be, and the numbers of the refusals."""

OUT_OF_RANGE = -1
KEY_TAKEN = -2
TWICE = -3
NOT_THERE = -4
TOO_MUCH = -5
BELOW_LIMIT = -6
NOT_TOUCHED = -7
CANNOT_BE = -8
FULL = -9

GOODS = (1, 2, 3, 4)
GREATEST_KEY = 1000000000
GREATEST_AMOUNT = 1000000000000
GREATEST_AFTER_DEPOSIT = 10000000000000
GREATEST_NEED = 1000000000000000
MOST_ACCOUNTS = 8
MOST_GROUPS = 24
MOST_LEGS = 8
NUMBERS_OF_A_LEG = 4


def is_key(number):
    return 1 <= number <= GREATEST_KEY


def is_good(number):
    return number in GOODS


def is_amount(number):
    return 1 <= number <= GREATEST_AMOUNT


def is_limit(number):
    return 0 <= number <= GREATEST_AMOUNT


def is_place(number):
    return 1 <= number <= MOST_GROUPS


def list_refusal(house, keys):
    """The refusal of a list of groups, or 0 if there's none."""
    if len(keys) > MOST_GROUPS or not all([is_key(key) for key in keys]):
        return OUT_OF_RANGE
    if len(set(keys)) < len(keys):
        return TWICE
    if not all([key in house.groups for key in keys]):
        return NOT_THERE
    return 0
