"""Point 4: the limits."""

from helper import Case
from tasterow import limits


class Limits(Case):

    def test_values(self):
        self.same(limits.MAX_DISHES, 8)
        self.same(limits.MAX_TASTERS, 16)
        self.same(limits.MAX_WEIGHT, 1000000000000)
        self.same(limits.MAX_OPERATIONS, 60)
        self.same(limits.MAX_BATCH, 20)
        self.same(limits.LOG_SIZE, 100)
