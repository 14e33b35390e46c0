"""What players hold, and what is under way, event by event."""

from mintlaw.runs import covers
from mintlaw.vectors import less, plus


class Ledger:
    """The holdings in the shards, at first refunds or nothing, and the stocks that were sent and have not landed.

    An event is handed over with its flow: who it takes what from, and who it gives what to.
    """

    def __init__(self, width, refunds):
        self.nothing = (0,) * width
        self.holdings = {(shard, player): stock for shard, player, stock in refunds}
        self.under_way = {}

    def holding(self, holder):
        """Return what a player holds in a shard."""
        return self.holdings.get(holder, self.nothing)

    def can_carry(self, event, flow):
        """Tell whether an event can be carried out."""
        taker, take, _, _ = flow
        if event[0] == "land":
            return event[3] in self.under_way
        return taker is None or covers(self.holding(taker), take)

    def carry(self, event, flow):
        """Carry out an event that can be carried out."""
        taker, take, getter, give = flow
        if taker is not None:
            self.holdings[taker] = less(self.holding(taker), take)
        if getter is not None:
            self.holdings[getter] = plus(self.holding(getter), give)
        if event[0] == "send":
            self.under_way[event[3]] = take
        if event[0] == "land":
            del self.under_way[event[3]]

    def ends(self):
        """Return the holdings that are not nothing, and what is under way, both ascending."""
        holdings = [(*holder, stock) for holder, stock in self.holdings.items() if stock != self.nothing]
        return tuple(sorted(holdings)), tuple(sorted(self.under_way.items()))
