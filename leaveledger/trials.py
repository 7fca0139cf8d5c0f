"""Blocks behind which a house is what it was in front of them."""


class Trial:
    """Keeps what a house is when a block is entered, and gives it back behind the block."""

    def __init__(self, house):
        self.house = house

    def __enter__(self):
        self.book = self.house.book
        self.world = self.house.world
        self.now = self.house.now
        self.loans = self.house.loans
        self.rows = self.house.rows
        self.state = self.house.state
        self.terrain = self.house.terrain
        return self.house

    def __exit__(self, kind, value, trace):
        house = self.house
        house.book = self.book
        house.world = self.world
        house.now = self.now
        house.loans = self.loans
        house.rows = self.rows
        house.state = self.state
        house.terrain = self.terrain
