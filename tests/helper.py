"""What the tests share: operations by their names, answers call by call, and a chart to compare with."""

import itertools

from openlanes.patrol import answers

NAMES = (
    "create", "add_channel", "remove_channel", "set_max_age", "set_position", "set_age",
    "reset", "travel", "wait", "available_moves", "legal_moves", "safe_moves", "is_safe",
    "first_plan", "safe_plan", "follow_safe_plan", "safe_start_places", "tight_channels",
    "is_safe_with_max_age", "min_common_max_age", "required_trips", "list_channels", "summary",
)

GREATEST = 4294967295


def request_of(calls):
    """The list of numbers for calls like ("add_channel", 0, 1, 3)."""
    numbers = []
    for call in calls:
        numbers.append(NAMES.index(call[0]))
        numbers.extend(call[1:])
    return numbers


def split_answers(answered):
    """A list of numbers for each call, out of the list that is given back."""
    split = []
    start = 0
    while start < len(answered):
        behind = start + 1 + answered[start]
        if behind > len(answered):
            raise AssertionError(f"the answers end too early: {answered}")
        split.append(answered[start + 1:behind])
        start = behind
    return split


def ask(*calls):
    """What each of the calls of one request answers."""
    if not 1 <= len(calls) <= 40:
        raise AssertionError(f"a request has 1 to 40 calls, not {len(calls)}")
    split = split_answers(answers(request_of(calls)))
    if len(split) != len(calls):
        raise AssertionError(f"{len(calls)} calls, but {len(split)} answers")
    return split


def ask_last(*calls):
    """What the last of the calls answers."""
    return ask(*calls)[-1]


def layout(place_count, *channels):
    """The calls that make an instance with channels (end_a, end_b, max_age)."""
    return [("create", place_count)] + [("add_channel",) + tuple(channel) for channel in channels]


def put(place, *ages):
    """The calls that bring about a state: a place, and the age of each channel."""
    return [("set_position", place)] + [("set_age", number, age) for number, age in enumerate(ages)]


def states_of(place_count, channels):
    """Every state in which all channels are open."""
    ages_of_each = [range(channel[2] + 1) for channel in channels]
    return list(itertools.product(range(place_count), itertools.product(*ages_of_each)))


def some_states_of(place_count, channels):
    """Every state, or of very many every seventh, where each of them is asked much."""
    states = states_of(place_count, channels)
    return states if len(states) < 120 else states[::7]


# How many places there are, and the channels (end_a, end_b, max_age).
LAYOUTS = [
    (2, []),
    (4, []),
    (2, [(0, 1, 1)]),
    (4, [(2, 1, 3)]),
    (2, [(0, 1, 1), (1, 0, 1)]),
    (2, [(0, 1, 2), (1, 0, 3)]),
    (3, [(0, 1, 2), (1, 2, 2)]),
    (3, [(0, 1, 3), (2, 1, 2)]),
    (4, [(0, 1, 3), (2, 3, 3)]),
    (2, [(0, 1, 1), (1, 0, 1), (0, 1, 1)]),
    (2, [(0, 1, 1), (0, 1, 3), (1, 0, 3)]),
    (2, [(0, 1, 2), (0, 1, 2), (0, 1, 3)]),
    (3, [(0, 1, 2), (1, 2, 2), (2, 0, 2)]),
    (3, [(0, 1, 3), (1, 2, 3), (0, 1, 3)]),
    (3, [(0, 1, 3), (1, 2, 3), (2, 0, 3)]),
    (4, [(0, 1, 3), (0, 2, 3), (0, 3, 3)]),
    (4, [(0, 1, 3), (1, 2, 3), (2, 3, 3)]),
]


class Chart:
    """The legal moves over fixed channels, and what plans there are, found without the program.

    A state is a tuple of a place and a tuple of ages.
    """

    def __init__(self, channels):
        self.channels = [tuple(channel) for channel in channels]
        self.legal = {}
        self.safe = {}

    def moves(self, state):
        """The legal moves, each with the state behind it."""
        if state not in self.legal:
            self.legal[state] = self.find_moves(state)
        return self.legal[state]

    def find_moves(self, state):
        place, ages = state
        found = {}
        for move in range(len(self.channels) + 1):
            behind = place
            if move > 0:
                ends = list(self.channels[move - 1][:2])
                if place not in ends:
                    continue
                ends.remove(place)
                behind = ends[0]
            later = tuple(0 if i == move - 1 else age + 1 for i, age in enumerate(ages))
            if all(age <= channel[2] for age, channel in zip(later, self.channels)):
                found[move] = (behind, later)
        return found

    def is_safe(self, state):
        """Whether there are plans of every length."""
        if state not in self.safe:
            self.safe[state] = self.can_always_move(state)
        return self.safe[state]

    def can_always_move(self, state):
        # The states to which so many moves lead: once they are the same as
        # fewer moves led to, they come round again and again.
        reached = frozenset([state])
        before = set()
        while reached and reached not in before:
            before.add(reached)
            reached = frozenset(later for each in reached for later in self.moves(each).values())
        return bool(reached)

    def safe_moves(self, state):
        moves = self.moves(state)
        return [move for move in sorted(moves) if self.is_safe(moves[move])]

    def plans(self, state, hours):
        """All plans of that length."""
        ways = [([], state)]
        for hour in range(hours):
            ways = [
                (plan + [move], later) for plan, behind in ways for move, later in self.moves(behind).items()
            ]
        return [plan for plan, behind in ways]

    def safe_plan(self, state, hours):
        """The safe plan, for a safe state."""
        plan = []
        for hour in range(hours):
            move = self.safe_moves(state)[0]
            plan.append(move)
            state = self.moves(state)[move]
        return plan

    def after(self, state, plan):
        """The state behind a plan."""
        for move in plan:
            state = self.moves(state)[move]
        return state

    def with_max_age(self, number, max_age):
        """The chart of the same channels, of which one has another maximum age."""
        changed = list(self.channels)
        changed[number] = changed[number][:2] + (max_age,)
        return Chart(changed)
