"""Shares gathered by what they are shares of, for the walk and for the graph's rows [23] [31]."""

from fairdraw.errors import TooMany
from fairdraw.fractions import plus


class Gathering:
    """Tuples and their shares: the shares of tuples that are alike are added, more than most unlike ones refused."""

    def __init__(self, most):
        self.most = most
        self.shares = {}

    def add(self, numbers, share):
        """One more tuple with its share.

        None of those that are here goes again, so the first one too many is refused at once.
        """
        if numbers in self.shares:
            share = plus(self.shares[numbers], share)
        self.shares[numbers] = share
        if len(self.shares) > self.most:
            raise TooMany(self.most)
