"""What it costs to leave some events out of a history, so that all others stand by refunds."""

from itertools import combinations

from mintlaw.vectors import weighted_sum


class Choosing:
    """The events of a history that are not recalled, at some prices.

    Each holding of a kind that has a price has a slot; `rows` tells for each of the events what it takes
    from slots and what it gives to them, and `rates` the price of each slot.
    """

    def __init__(self, history, flows, numbers, prices):
        self.numbers = numbers
        self.lands = lands_of_sends(history)
        self.worths = [weighted_sum(prices, give) for _, _, _, give in flows]
        self.slots = {}
        self.rates = []
        self.rows = []
        for number in numbers:
            taker, take, getter, give = flows[number]
            takes = self.slots_with(taker, take, prices)
            self.rows.append((number, takes, self.slots_with(getter, give, prices)))

    def slots_with(self, holder, stock, prices):
        """Return a list of pairs of a slot and a number of units, for what is taken from a holding or given to it."""
        found = []
        for kind, units in enumerate(stock):
            if units > 0 and prices[kind] > 0:
                if (holder, kind) not in self.slots:
                    self.slots[(holder, kind)] = len(self.slots)
                    self.rates.append(prices[kind])
                found.append((self.slots[(holder, kind)], units))
        return found

    def choices(self, many):
        """Return the list of the choices of so many events, ascending; with each send its land is left out."""
        return [choice for choice in ascending(self.numbers, many) if self.has_lands(choice)]

    def has_lands(self, choice):
        """Tell whether a choice has the land of each of its sends, as far as there is one."""
        return all(self.lands.get(number, number) in choice for number in choice)

    def cost_of(self, choice):
        """Return the cost of a choice: the value of what its events add, and of the least refunds for all others."""
        return sum([self.worths[number] for number in choice]) + self.refund_cost(choice)

    def refund_cost(self, choice):
        """Return the value of the least refunds with which all events stand but those of a choice."""
        held = [0] * len(self.rates)
        least = [0] * len(self.rates)
        for number, takes, gives in self.rows:
            if number not in choice:
                for slot, units in takes:
                    held[slot] -= units
                    least[slot] = min(least[slot], held[slot])
                for slot, units in gives:
                    held[slot] += units
        return -weighted_sum(self.rates, least)


def lands_of_sends(history):
    """Return the dict from the numbers of the sends that land to the numbers of their lands."""
    sends = {event[3]: number for number, event in enumerate(history) if event[0] == "send"}
    return {sends[event[3]]: number for number, event in enumerate(history) if event[0] == "land"}


def ascending(numbers, many):
    """Return the list of the ascending tuples of so many of the numbers, which are ascending."""
    return list(combinations(numbers, many))
