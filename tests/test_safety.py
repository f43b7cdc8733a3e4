"""Operation 11, and the requirement that safety means plans of every length."""

import itertools
import unittest

from helper import ask, ask_last


def channels_of(*channels):
    """The calls that add channels (end_a, end_b, max_age)."""
    return [("add_channel",) + channel for channel in channels]


class SafeMovesWorkedOutByHand(unittest.TestCase):
    def test_without_channels(self):
        self.assertEqual(ask_last(("create", 2), ("safe_moves",)), [1, 0])
        self.assertEqual(ask_last(("create", 4), ("set_position", 3), ("safe_moves",)), [1, 0])

    def test_one_channel(self):
        for max_age in (1, 2, 3):
            self.assertEqual(
                ask(
                    ("create", 2), ("add_channel", 0, 1, max_age), ("safe_moves",),
                    ("set_age", 0, max_age - 1), ("safe_moves",), ("set_age", 0, max_age), ("safe_moves",),
                )[2::2],
                [[2, 0, 1], [2, 0, 1], [1, 1]],
            )

    def test_a_channel_out_of_reach(self):
        # The three hours until it freezes shut can be waited, but no more.
        answered = ask(
            ("create", 4), ("add_channel", 2, 3, 3), ("legal_moves",), ("safe_moves",),
            ("set_position", 3), ("safe_moves",), ("set_position", 1), ("safe_moves",),
        )
        self.assertEqual(answered[2:], [[1, 0], [0], [0], [2, 0, 1], [3], [0]])

    def test_a_path_of_two_channels(self):
        # To and fro each channel is travelled twice in a row, then has an age
        # of 2 when its turn comes again. One hour can be waited at the start:
        # then the ages are (0, 2) at place 1 and (1, 0) at place 2, as on the
        # way to and fro.
        path = [("create", 3)] + channels_of((0, 1, 2), (1, 2, 2))
        self.assertEqual(ask_last(*(path + [("safe_moves",)])), [2, 0, 1])
        answered = ask(*(path + [("travel", 0), ("safe_moves",), ("travel", 1), ("safe_moves",)]))
        self.assertEqual(answered[3:], [[1, 0, 1], [1, 2], [2, 1, 0], [1, 2]])

    def test_a_path_that_is_too_long_for_its_max_age(self):
        for max_ages in ((1, 1), (2, 1), (1, 2), (1, 3), (3, 1)):
            path = [("create", 3)] + channels_of((0, 1, max_ages[0]), (1, 2, max_ages[1]))
            self.assertEqual(ask_last(*(path + [("safe_moves",)])), [0])

    def test_a_raised_max_age_makes_it_safe(self):
        answered = ask(
            ("create", 3), ("add_channel", 0, 1, 2), ("add_channel", 1, 2, 1), ("safe_moves",),
            ("set_max_age", 1, 2), ("safe_moves",), ("set_max_age", 0, 1), ("safe_moves",),
        )
        self.assertEqual(answered[3:], [[0], [1], [2, 0, 1], [2], [0]])

    def test_a_triangle(self):
        # Round and round, either way: whoever waits first comes too late.
        triangle = [("create", 3)] + channels_of((0, 1, 2), (1, 2, 2), (2, 0, 2))
        answered = ask(*(triangle + [("legal_moves",), ("safe_moves",), ("travel", 0), ("safe_moves",)]))
        self.assertEqual(answered[4:], [[3, 0, 1, 3], [2, 1, 3], [1, 0, 1, 1], [1, 2]])

    def test_three_channels_side_by_side(self):
        # With (1, 3, 3) channel 0 has every second hour, the others by turns.
        for max_ages, safe in (
            ((1, 1, 1), [0]), ((2, 2, 2), [3, 1, 2, 3]), ((1, 3, 3), [3, 1, 2, 3]), ((1, 2, 3), [0]),
        ):
            channels = channels_of(*[(0, 1, max_age) for max_age in max_ages])
            self.assertEqual(ask_last(*([("create", 2)] + channels + [("safe_moves",)])), safe)

    def test_safe_moves_go_with_the_ages(self):
        # Channel 0 is due, then channel 1 is; the other way round is too late.
        answered = ask(
            ("create", 2), ("add_channel", 0, 1, 2), ("add_channel", 0, 1, 2), ("set_age", 0, 2), ("set_age", 1, 1),
            ("safe_moves",), ("set_age", 1, 2), ("safe_moves",), ("reset",), ("safe_moves",),
        )
        self.assertEqual(answered[5::2], [[1, 1], [0], [3, 0, 1, 2]])

    def test_a_removed_channel_is_no_longer_in_the_way(self):
        answered = ask(
            ("create", 3), ("add_channel", 0, 1, 1), ("add_channel", 1, 2, 1), ("safe_moves",),
            ("remove_channel", 0), ("safe_moves",), ("set_position", 2), ("safe_moves",),
        )
        self.assertEqual(answered[3::2], [[0], [0], [2, 0, 1]])


class Chart:
    """The legal moves over fixed channels, and which states have plans without an end.

    A state has them if and only if a circle of legal moves can be reached.
    """

    def __init__(self, channels):
        self.channels = channels
        self.endless = {}

    def moves(self, state):
        place, ages = state
        found = {}
        for move in range(len(self.channels) + 1):
            behind = place
            if move > 0:
                ends = list(self.channels[move - 1][:2])
                if place not in ends:
                    continue
                ends.remove(place)
                behind = ends[0]
            later = tuple(0 if i == move - 1 else age + 1 for i, age in enumerate(ages))
            if all(age <= channel[2] for age, channel in zip(later, self.channels)):
                found[move] = (behind, later)
        return found

    def is_endless(self, state):
        if state not in self.endless:
            self.endless[state] = self.reaches_circle(state, [])
        return self.endless[state]

    def reaches_circle(self, state, way):
        if state in way or self.endless.get(state):
            return True
        if state in self.endless:
            return False
        for later in self.moves(state).values():
            if self.reaches_circle(later, way + [state]):
                self.endless[state] = True
                return True
        self.endless[state] = False
        return False

    def safe_moves(self, state):
        moves = self.moves(state)
        return [move for move in sorted(moves) if self.is_endless(moves[move])]


def compare_all_states(test, place_count, channels):
    """Compares the safe moves of every state with those of the chart."""
    chart = Chart(channels)
    setup = [("create", place_count)] + channels_of(*channels)
    ages_of_each = [range(channel[2] + 1) for channel in channels]
    for place in range(place_count):
        for ages in itertools.product(*ages_of_each):
            calls = setup + [("set_position", place)]
            calls += [("set_age", number, age) for number, age in enumerate(ages)]
            expected = chart.safe_moves((place, ages))
            answered = ask_last(*(calls + [("safe_moves",)]))
            test.assertEqual(answered, [len(expected)] + expected, (place_count, channels, place, ages))


class SafetyMeansPlansOfEveryLength(unittest.TestCase):
    def test_every_state_of_some_layouts(self):
        for place_count, channels in (
            (2, []),
            (4, []),
            (2, [(0, 1, 1)]),
            (4, [(2, 1, 3)]),
            (2, [(0, 1, 1), (1, 0, 1)]),
            (3, [(0, 1, 2), (1, 2, 2)]),
            (3, [(0, 1, 3), (2, 1, 2)]),
            (4, [(0, 1, 3), (2, 3, 3)]),
            (2, [(0, 1, 1), (0, 1, 3), (1, 0, 3)]),
            (2, [(0, 1, 2), (0, 1, 2), (0, 1, 3)]),
            (3, [(0, 1, 2), (1, 2, 2), (2, 0, 2)]),
            (3, [(0, 1, 3), (1, 2, 3), (0, 1, 3)]),
            (3, [(0, 1, 3), (1, 2, 3), (2, 0, 3)]),
            (4, [(0, 1, 3), (0, 2, 3), (0, 3, 3)]),
            (4, [(0, 1, 3), (1, 2, 3), (2, 3, 3)]),
        ):
            with self.subTest(place_count=place_count, channels=channels):
                compare_all_states(self, place_count, channels)


if __name__ == "__main__":
    unittest.main()
