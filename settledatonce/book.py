"""What the house holds."""


class Leg:
    """So much of a good, from one account to another one."""

    def __init__(self, giver, taker, good, amount):
        self.giver = giver
        self.taker = taker
        self.good = good
        self.amount = amount


class Group:
    """Legs that go together or not at all; held is 1 or 0, as the calls tell it."""

    def __init__(self, legs):
        self.legs = legs
        self.held = 0


class Account:
    """Amounts and limits by good, and the keys of the groups that touch the account, in its order."""

    def __init__(self):
        self.amounts = {1: 0, 2: 0, 3: 0, 4: 0}
        self.limits = {1: 0, 2: 0, 3: 0, 4: 0}
        self.row = []


class House:
    """Accounts and groups by their keys, which are apart."""

    def __init__(self):
        self.accounts = {}
        self.groups = {}
