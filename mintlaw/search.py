"""The search for all that can be had from a stock: move by move, with pumps that lead to what is without end."""

from collections import deque

from mintlaw.extended import END, changed_by, pumped
from mintlaw.loops import loops_that_gain, run_in_turns
from mintlaw.prices import loop_step
from mintlaw.rows import Rows, finite_kinds
from mintlaw.runs import covers, effect, move_change

MOST_PUMPS = 200


class Place:
    """An extended stock that a plan leads to: by a move from another place, and by pumps."""

    def __init__(self, label, parent, move):
        self.label = label
        self.parent = parent
        self.move = move
        self.pumps = []
        # The same move made again and again is one step of the plan, from the place `before` it.
        self.before = parent
        self.times = 1
        if parent is not None and parent.move == move and parent.pumps == []:
            self.before = parent.before
            self.times = parent.times + 1


class Waiting:
    """Places that wait for their turn: those with the most entries without end come first.

    Of these, the oldest and the newest one have their turn alternately: a pump may be found by few
    moves from the beginning, or by going on and on.
    """

    def __init__(self, width):
        self.lines = [deque() for _ in range(width + 1)]
        self.is_newest = False

    def put(self, place):
        """Let a place wait."""
        ends = sum([int(entry == END) for entry in place.label])
        self.lines[ends].append(place)

    def taken(self):
        """Return the place whose turn it is, which waits no longer, or None."""
        filled = [at for at, line in enumerate(self.lines) if line]
        if filled == []:
            return None
        line = self.lines[filled[-1]]
        self.is_newest = not self.is_newest
        return line.pop() if self.is_newest else line.popleft()


class Search:
    """Searches in one book; the pumps that one of them finds are known to the next ones."""

    def __init__(self, book):
        self.world = book
        self.moves = [(book[1][m][1], move_change(book, m)) for m in range(len(book[1]))]
        self.pumps = []
        self.loops = {}
        for m, once in enumerate(self.moves):
            if max(once[1]) > 0:
                self.pumps.append((once, (("do", m),)))

    def places(self, label, wanted=None, most=None):
        """Return the list of places that cover together all that can be had from an extended stock.

        The list ends with the first place that covers what is wanted, if that is told, and it has no
        more than `most` places, if that is told.
        """
        rows = Rows()
        found = []
        waiting = Waiting(len(label))
        waiting.put(Place(label, None, None))
        known = {label: True}
        while most is None or len(found) < most:
            place = waiting.taken()
            if place is None:
                break
            if rows.has_cover(place.label):
                continue
            # Pumps may lead to what is covered, too.
            if self.was_pumped(place) and rows.has_cover(place.label):
                continue
            rows.add(place.label)
            found.append(place)
            if wanted is not None and covers(place.label, wanted):
                break
            for child in self.children(place):
                if child.label not in known:
                    known[child.label] = True
                    waiting.put(child)
        return found

    def place_of(self, label, wanted, most=None):
        """Return a place that covers what is wanted, or None if none is found among so many places."""
        found = self.places(label, wanted, most)
        return found[-1] if found != [] and covers(found[-1].label, wanted) else None

    def children(self, place):
        """Return the list of the places behind the moves that are allowed for a place."""
        return [
            Place(changed_by(place.label, changed), place, m)
            for m, (needed, changed) in enumerate(self.moves)
            if covers(place.label, needed)
        ]

    def was_pumped(self, place):
        """Apply pumps to a place, as long as there are any; tell whether there were some."""
        run = self.pump_for(place)
        while run is not None:
            place.pumps.append(run)
            place.label = pumped(place.label, effect(self.world, run))
            run = self.pump_for(place)
        return place.pumps != []

    def pump_for(self, place):
        """Return a run that is a pump for a place and leads to further entries without end, or None."""
        loops = self.loops_for(place.label)
        # Each such pump makes the moves of some loop; so where there is no loop, there is no pump.
        if loops == []:
            return None
        for once, run in self.pumps:
            if pumped(place.label, once) not in (None, place.label):
                return run
        run = run_since_less(place)
        for loop in loops:
            if run is None:
                run = run_in_turns(place.label, self.moves, loop)
        if run is not None and len(self.pumps) < MOST_PUMPS:
            self.pumps.append((effect(self.world, run), run))
        return run

    def loops_for(self, label):
        """Return the list of loops that gain something at the entries that are not without end."""
        kinds = finite_kinds(label)
        if kinds not in self.loops:
            self.loops[kinds] = loops_that_gain(self.world, kinds)
        return self.loops[kinds]


def run_since_less(place):
    """Return the run that led to a place from one that it covers and that has less of a kind, or None."""
    moves = []
    before = place
    while before.parent is not None:
        moves.append(before.move)
        before = before.parent
        if has_grown(before.label, place.label):
            return run_of_moves(list(reversed(moves)))
    return None


def has_grown(before, label):
    """Tell whether an extended stock covers another one, with more of a kind that is not without end."""
    is_more = False
    for low, high in zip(before, label):
        if high != END:
            if low > high:
                return False
            is_more = is_more or low < high
    return is_more


def run_of_moves(moves):
    """Return the run that makes a list of moves, one after the other."""
    counts = []
    for m in moves:
        if counts != [] and counts[-1][0] == m:
            counts[-1] = (m, counts[-1][1] + 1)
        else:
            counts.append((m, 1))
    return tuple([loop_step(m, times) for m, times in counts])


def plan_to(place):
    """Return the plan that leads to a place."""
    parts = []
    steps = []
    while place is not None:
        if place.pumps != []:
            parts.extend(part_of_steps(steps))
            parts.extend([("pump", run) for run in reversed(place.pumps)])
            steps = []
        if place.move is not None:
            steps.append(loop_step(place.move, place.times))
        place = place.before
    parts.extend(part_of_steps(steps))
    return tuple(reversed(parts))


def part_of_steps(steps):
    """Return a list of the part of a plan that makes some steps, told backwards; no part for no steps."""
    return [("run", tuple(reversed(steps)))] if steps != [] else []
