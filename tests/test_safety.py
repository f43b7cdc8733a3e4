"""Operations 11, 12 and 16, and the requirements on safety."""

import unittest

from helper import LAYOUTS, Chart, ask, ask_last, layout, put, states_of


class SafeMovesWorkedOutByHand(unittest.TestCase):
    def test_without_channels(self):
        self.assertEqual(ask_last(("create", 2), ("safe_moves",)), [1, 0])
        self.assertEqual(ask_last(("create", 4), ("set_position", 3), ("safe_moves",)), [1, 0])

    def test_one_channel(self):
        for max_age in (1, 2, 3):
            self.assertEqual(
                ask(
                    ("create", 2), ("add_channel", 0, 1, max_age), ("safe_moves",),
                    ("set_age", 0, max_age - 1), ("safe_moves",), ("set_age", 0, max_age), ("safe_moves",),
                )[2::2],
                [[2, 0, 1], [2, 0, 1], [1, 1]],
            )

    def test_a_channel_out_of_reach(self):
        # The three hours until it freezes shut can be waited, but no more.
        answered = ask(
            ("create", 4), ("add_channel", 2, 3, 3), ("legal_moves",), ("safe_moves",),
            ("set_position", 3), ("safe_moves",), ("set_position", 1), ("safe_moves",),
        )
        self.assertEqual(answered[2:], [[1, 0], [0], [0], [2, 0, 1], [3], [0]])

    def test_a_path_of_two_channels(self):
        # To and fro each channel is travelled twice in a row, then has an age
        # of 2 when its turn comes again. One hour can be waited at the start:
        # then the ages are (0, 2) at place 1 and (1, 0) at place 2, as on the
        # way to and fro.
        path = layout(3, (0, 1, 2), (1, 2, 2))
        self.assertEqual(ask_last(*(path + [("safe_moves",)])), [2, 0, 1])
        answered = ask(*(path + [("travel", 0), ("safe_moves",), ("travel", 1), ("safe_moves",)]))
        self.assertEqual(answered[3:], [[1, 0, 1], [1, 2], [2, 1, 0], [1, 2]])

    def test_a_path_that_is_too_long_for_its_max_age(self):
        for max_ages in ((1, 1), (2, 1), (1, 2), (1, 3), (3, 1)):
            path = layout(3, (0, 1, max_ages[0]), (1, 2, max_ages[1]))
            self.assertEqual(ask_last(*(path + [("safe_moves",)])), [0])

    def test_a_raised_max_age_makes_it_safe(self):
        answered = ask(
            ("create", 3), ("add_channel", 0, 1, 2), ("add_channel", 1, 2, 1), ("safe_moves",),
            ("set_max_age", 1, 2), ("safe_moves",), ("set_max_age", 0, 1), ("safe_moves",),
        )
        self.assertEqual(answered[3:], [[0], [1], [2, 0, 1], [2], [0]])

    def test_a_triangle(self):
        # Round and round, either way: whoever waits first comes too late.
        triangle = layout(3, (0, 1, 2), (1, 2, 2), (2, 0, 2))
        answered = ask(*(triangle + [("legal_moves",), ("safe_moves",), ("travel", 0), ("safe_moves",)]))
        self.assertEqual(answered[4:], [[3, 0, 1, 3], [2, 1, 3], [1, 0, 1, 1], [1, 2]])

    def test_three_channels_side_by_side(self):
        # With (1, 3, 3) channel 0 has every second hour, the others by turns.
        for max_ages, safe in (
            ((1, 1, 1), [0]), ((2, 2, 2), [3, 1, 2, 3]), ((1, 3, 3), [3, 1, 2, 3]), ((1, 2, 3), [0]),
        ):
            calls = layout(2, *[(0, 1, max_age) for max_age in max_ages])
            self.assertEqual(ask_last(*(calls + [("safe_moves",)])), safe)

    def test_safe_moves_go_with_the_ages(self):
        # Channel 0 is due, then channel 1 is; the other way round is too late.
        answered = ask(
            ("create", 2), ("add_channel", 0, 1, 2), ("add_channel", 0, 1, 2), ("set_age", 0, 2), ("set_age", 1, 1),
            ("safe_moves",), ("set_age", 1, 2), ("safe_moves",), ("reset",), ("safe_moves",),
        )
        self.assertEqual(answered[5::2], [[1, 1], [0], [3, 0, 1, 2]])

    def test_a_removed_channel_is_no_longer_in_the_way(self):
        answered = ask(
            ("create", 3), ("add_channel", 0, 1, 1), ("add_channel", 1, 2, 1), ("safe_moves",),
            ("remove_channel", 0), ("safe_moves",), ("set_position", 2), ("safe_moves",),
        )
        self.assertEqual(answered[3::2], [[0], [0], [2, 0, 1]])


class IsSafe(unittest.TestCase):
    def test_without_channels(self):
        for place_count in (2, 4):
            self.assertEqual(ask(("create", place_count), ("is_safe",), ("wait",), ("is_safe",))[1::2], [[1], [1]])

    def test_one_channel_is_safe_at_its_ends_alone(self):
        for max_age in (1, 2, 3):
            for place, result in ((0, [0]), (1, [1]), (2, [1]), (3, [0])):
                for age in (0, max_age):
                    calls = layout(4, (1, 2, max_age)) + put(place, age)
                    self.assertEqual(ask_last(*(calls + [("is_safe",)])), result)

    def test_two_channels_that_are_due_at_once(self):
        for max_age in (1, 2, 3):
            channels = layout(2, (0, 1, max_age), (1, 0, max_age))
            for ages, result in (
                ((0, 0), [1]), ((max_age, 0), [1]), ((0, max_age), [1]), ((max_age, max_age), [0]),
                ((max_age, max_age - 1), [1]),
            ):
                self.assertEqual(ask_last(*(channels + put(1, *ages) + [("is_safe",)])), result, (max_age, ages))

    def test_three_channels_between_the_same_places(self):
        # Three channels of maximum age 2 have one hour in three each.
        for ages, result in (
            ((0, 0, 0), [1]), ((2, 1, 0), [1]), ((0, 1, 2), [1]), ((1, 1, 0), [1]), ((1, 1, 1), [0]), ((2, 2, 0), [0]),
        ):
            calls = layout(2, (0, 1, 2), (0, 1, 2), (0, 1, 2)) + put(0, *ages)
            self.assertEqual(ask_last(*(calls + [("is_safe",)])), result, ages)

    def test_open_is_not_enough(self):
        # Nobody comes to the other shore, and yet three hours can be waited.
        calls = layout(4, (2, 3, 3))
        answered = ask(*(calls + [("is_safe",), ("first_plan", 3), ("first_plan", 4), ("wait",), ("is_safe",)]))
        self.assertEqual(answered[2:], [[0], [3, 0, 0, 0], [-33], [0, 1], [0]])

    def test_what_is_answered_is_a_number(self):
        for place in (0, 2):
            calls = layout(3, (0, 1, 1)) + put(place) + [("is_safe",)]
            self.assertIs(type(ask_last(*calls)[0]), int)


class SafeStartPlaces(unittest.TestCase):
    def test_without_channels(self):
        self.assertEqual(ask_last(("create", 2), ("safe_start_places",)), [2, 0, 1])
        self.assertEqual(ask_last(("create", 4), ("safe_start_places",)), [4, 0, 1, 2, 3])

    def test_the_ends_of_one_channel(self):
        for place_count, ends in ((2, (1, 0)), (3, (2, 0)), (4, (1, 3)), (4, (3, 2))):
            calls = layout(place_count, ends + (1,))
            self.assertEqual(ask_last(*(calls + [("safe_start_places",)])), [2] + sorted(ends))

    def test_every_place_of_a_path(self):
        for max_ages, places in (((2, 2), [3, 0, 1, 2]), ((3, 2), [3, 0, 1, 2]), ((3, 1), [0]), ((1, 2), [0])):
            calls = layout(4, (0, 1, max_ages[0]), (1, 2, max_ages[1]))
            self.assertEqual(ask_last(*(calls + [("safe_start_places",)])), places)

    def test_channels_that_do_not_meet(self):
        self.assertEqual(ask_last(*(layout(4, (0, 1, 3), (2, 3, 3)) + [("safe_start_places",)])), [0])

    def test_three_channels_in_a_row(self):
        self.assertEqual(ask_last(*(layout(4, (0, 1, 3), (1, 2, 3), (2, 3, 3)) + [("safe_start_places",)])), [0])

    def test_neither_the_ages_nor_the_position_count(self):
        channels = layout(4, (1, 3, 2), (3, 1, 2))
        for place in range(4):
            calls = channels + put(place, 2, 2) + [("is_safe",), ("safe_start_places",)]
            self.assertEqual(ask(*calls)[-2:], [[0], [2, 1, 3]])

    def test_it_changes_nothing(self):
        calls = layout(4, (1, 3, 2)) + put(2, 2) + [("wait",), ("safe_start_places",), ("list_channels",), ("summary",)]
        self.assertEqual(ask(*calls)[-3:], [[2, 1, 3], [1, 1, 3, 2, 2], [4, 1, 2, 0]])


class SafetyMeansPlansOfEveryLength(unittest.TestCase):
    def test_every_state_of_some_layouts(self):
        for place_count, channels in LAYOUTS:
            chart = Chart(channels)
            for state in states_of(place_count, channels):
                calls = layout(place_count, *channels) + put(state[0], *state[1])
                answered = ask(*(calls + [("is_safe",), ("safe_moves",)]))[-2:]
                moves = chart.safe_moves(state)
                self.assertEqual(answered[0], [1 if chart.is_safe(state) else 0], (place_count, channels, state))
                self.assertEqual(answered[1], [len(moves)] + moves, (place_count, channels, state))

    def test_a_plan_as_long_as_there_are_states_decides(self):
        # A longer plan comes to some state twice, and so can go on for ever.
        for place_count, channels in LAYOUTS[:8]:
            chart = Chart(channels)
            states = states_of(place_count, channels)
            for state in states:
                reached = {state}
                for hour in states:
                    reached = {later for each in reached for later in chart.moves(each).values()}
                calls = layout(place_count, *channels) + put(state[0], *state[1]) + [("is_safe",)]
                self.assertEqual(ask_last(*calls), [1 if reached else 0], (place_count, channels, state))

    def test_the_safe_start_places_of_some_layouts(self):
        for place_count, channels in LAYOUTS:
            chart = Chart(channels)
            ages = (0,) * len(channels)
            places = [place for place in range(place_count) if chart.is_safe((place, ages))]
            calls = layout(place_count, *channels) + [("safe_start_places",)]
            self.assertEqual(ask_last(*calls), [len(places)] + places, (place_count, channels))


class Monotonicity(unittest.TestCase):
    def safe_states(self):
        for place_count, channels in LAYOUTS:
            chart = Chart(channels)
            for state in states_of(place_count, channels):
                if chart.is_safe(state):
                    yield layout(place_count, *channels) + put(state[0], *state[1]), channels, state

    def test_there_are_enough_safe_states_to_tell(self):
        self.assertGreater(len(list(self.safe_states())), 200)

    def test_a_reduced_age_keeps_it_safe(self):
        for calls, channels, state in self.safe_states():
            for number, age in enumerate(state[1]):
                for less in range(age):
                    answered = ask(*(calls + [("set_age", number, less), ("is_safe",)]))
                    self.assertEqual(answered[-2:], [[age], [1]], (channels, state, number, less))

    def test_an_increased_max_age_keeps_it_safe(self):
        for calls, channels, state in self.safe_states():
            for number, channel in enumerate(channels):
                for more in range(channel[2] + 1, 4):
                    asked = [("is_safe_with_max_age", number, more), ("set_max_age", number, more), ("is_safe",)]
                    answered = ask(*(calls + asked))
                    self.assertEqual(answered[-3:], [[1], [channel[2]], [1]], (channels, state, number, more))


if __name__ == "__main__":
    unittest.main()
