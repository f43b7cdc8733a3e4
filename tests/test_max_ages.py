"""Operations 17 to 20: what the maximum ages could be, and the trips that they ask for."""

import itertools
import unittest

from helper import GREATEST, LAYOUTS, Chart, ask, ask_last, layout, put, some_states_of, states_of


class TightChannels(unittest.TestCase):
    def test_without_channels(self):
        self.assertEqual(ask_last(("create", 2), ("tight_channels",)), [0])

    def test_one_channel(self):
        for max_age, tight in ((1, [1, 0]), (2, [0]), (3, [0])):
            for age in (0, max_age):
                calls = layout(3, (2, 0, max_age)) + put(0, age) + [("tight_channels",)]
                self.assertEqual(ask_last(*calls), tight)

    def test_a_maximum_age_of_1_is_tight(self):
        self.assertEqual(ask_last(*(layout(2, (0, 1, 1), (0, 1, 1)) + [("tight_channels",)])), [2, 0, 1])
        # Channel 0 has every second hour; the others have every fourth, and need it.
        calls = layout(2, (0, 1, 1), (0, 1, 3), (0, 1, 3))
        self.assertEqual(ask_last(*(calls + [("tight_channels",)])), [3, 0, 1, 2])
        # Of the two channels, one could be travelled every second hour as well.
        self.assertEqual(ask_last(*(layout(2, (0, 1, 3), (1, 0, 1)) + [("tight_channels",)])), [1, 1])

    def test_a_path(self):
        for max_ages, tight in (((2, 2), [2, 0, 1]), ((3, 3), [0]), ((3, 2), [1, 1]), ((2, 3), [1, 0])):
            calls = layout(3, (0, 1, max_ages[0]), (1, 2, max_ages[1])) + [("tight_channels",)]
            self.assertEqual(ask_last(*calls), tight)

    def test_it_goes_with_the_ages(self):
        # At place 0 channel 1 is two hours old: it can't be reached in time
        # if it freezes shut an hour earlier.
        calls = layout(3, (0, 1, 3), (1, 2, 3)) + put(0, 0, 2)
        self.assertEqual(ask_last(*(calls + [("tight_channels",)])), [1, 1])

    def test_the_age_is_reduced_with_the_maximum_age(self):
        # 3 hours old of 3, then 2 hours old of 2: due at once either way.
        calls = layout(2, (0, 1, 3), (1, 0, 3)) + put(0, 3, 0) + [("tight_channels",), ("list_channels",)]
        self.assertEqual(ask(*calls)[-2:], [[0], [2, 0, 1, 3, 3, 1, 0, 3, 0]])

    def test_not_in_a_state_that_is_not_safe(self):
        for calls in (layout(3, (0, 1, 3)) + put(2), layout(2, (0, 1, 1), (0, 1, 1)) + put(0, 1, 1)):
            self.assertEqual(ask_last(*(calls + [("tight_channels",)])), [-33])

    def test_every_state_of_some_layouts(self):
        for place_count, channels in LAYOUTS:
            chart = Chart(channels)
            less = [chart.with_max_age(number, channel[2] - 1) for number, channel in enumerate(channels)]
            for state in states_of(place_count, channels):
                expected = [-33]
                if chart.is_safe(state):
                    tight = [number for number in range(len(channels)) if is_tight(channels, less, state, number)]
                    expected = [len(tight)] + tight
                calls = layout(place_count, *channels) + put(state[0], *state[1]) + [("tight_channels",)]
                self.assertEqual(ask_last(*calls), expected, (place_count, channels, state))

    def test_as_after_set_max_age(self):
        for place_count, channels in LAYOUTS[:9]:
            for state in states_of(place_count, channels):
                calls = layout(place_count, *channels) + put(state[0], *state[1])
                answered = ask_last(*(calls + [("tight_channels",)]))
                if answered != [-33]:
                    for number, channel in enumerate(channels):
                        changed = [("set_max_age", number, channel[2] - 1), ("is_safe",)]
                        tight = channel[2] == 1 or ask_last(*(calls + changed)) == [0]
                        self.assertEqual(number in answered[1:], tight, (channels, state, number))


def capped(state, number, max_age):
    """The state with the age of a channel at most its new maximum age."""
    ages = list(state[1])
    ages[number] = min(ages[number], max_age)
    return (state[0], tuple(ages))


def is_tight(channels, less, state, number):
    """Whether a channel is tight, by the charts of lesser maximum ages."""
    max_age = channels[number][2]
    return max_age == 1 or not less[number].is_safe(capped(state, number, max_age - 1))


class IsSafeWithMaxAge(unittest.TestCase):
    def test_a_path(self):
        path = layout(3, (0, 1, 3), (1, 2, 3)) + put(0, 0, 2)
        asked = [("is_safe_with_max_age", number, max_age) for number in (0, 1) for max_age in (1, 2, 3)]
        self.assertEqual(ask(*(path + asked))[-6:], [[0], [1], [1], [0], [0], [1]])

    def test_a_channel_that_is_older_gets_that_age(self):
        for age in (1, 2, 3):
            for max_age in (1, 2, 3):
                calls = layout(2, (0, 1, 3)) + put(0, age) + [("is_safe_with_max_age", 0, max_age)]
                self.assertEqual(ask_last(*calls), [1], (age, max_age))

    def test_of_an_older_channel_beside_another(self):
        # Channel 1 is due at once, and that leaves time enough for channel 0,
        # but not if that is due at once too.
        channels = layout(2, (0, 1, 3), (1, 0, 3))
        for ages, result in (((0, 3), [1]), ((1, 3), [1]), ((2, 3), [1]), ((3, 3), [0])):
            calls = channels + put(0, *ages) + [("is_safe_with_max_age", 1, 2), ("is_safe_with_max_age", 1, 1)]
            self.assertEqual(ask(*calls)[-2:], [result, result], ages)

    def test_from_a_state_that_is_not_safe(self):
        # With a longer time for channel 0 there is time for channel 1 first.
        calls = layout(2, (0, 1, 1), (0, 1, 1)) + put(0, 1, 1)
        asked = [("is_safe",)] + [("is_safe_with_max_age", 0, max_age) for max_age in (1, 2, 3)]
        self.assertEqual(ask(*(calls + asked))[-4:], [[0], [0], [1], [1]])

    def test_out_of_reach(self):
        calls = layout(3, (0, 1, 1)) + put(2) + [("is_safe_with_max_age", 0, max_age) for max_age in (1, 2, 3)]
        self.assertEqual(ask(*calls)[-3:], [[0], [0], [0]])

    def test_what_is_answered_is_a_number(self):
        for place in (0, 2):
            calls = layout(3, (0, 1, 1)) + put(place) + [("is_safe_with_max_age", 0, 2)]
            self.assertIs(type(ask_last(*calls)[0]), int)

    def test_no_such_channel_or_maximum_age(self):
        calls = layout(2, (0, 1, 1), (0, 1, 3))
        for asked, code in (
            ((2, 1), [-2]), ((3, 1), [-2]), ((GREATEST, 3), [-2]), ((2, 0), [-2]), ((GREATEST, GREATEST), [-2]),
            ((0, 0), [-22]), ((1, 0), [-22]), ((1, 4), [-22]), ((0, GREATEST), [-22]),
        ):
            self.assertEqual(ask_last(*(calls + [("is_safe_with_max_age",) + asked])), code, asked)

    def test_every_state_of_some_layouts(self):
        for place_count, channels in LAYOUTS:
            asked = list(itertools.product(range(len(channels)), (1, 2, 3)))
            charts = [Chart(channels).with_max_age(number, max_age) for number, max_age in asked]
            for state in some_states_of(place_count, channels):
                calls = layout(place_count, *channels) + put(state[0], *state[1])
                answered = ask(*(calls + [("is_safe_with_max_age",) + each for each in asked]))[len(calls):]
                for each, chart, numbers in zip(asked, charts, answered):
                    safe = chart.is_safe(capped(state, each[0], each[1]))
                    self.assertEqual(numbers, [1 if safe else 0], (place_count, channels, state, each))


class MinCommonMaxAge(unittest.TestCase):
    def test_without_channels(self):
        self.assertEqual(ask_last(("create", 3), ("min_common_max_age",)), [1])

    def test_one_channel(self):
        for place, answered in ((0, [-33]), (1, [1]), (2, [1]), (3, [-33])):
            for max_age in (1, 3):
                calls = layout(4, (1, 2, max_age)) + put(place) + [("min_common_max_age",)]
                self.assertEqual(ask_last(*calls), answered)

    def test_several_channels(self):
        for channels, answered in (
            ([(0, 1), (1, 0)], [1]),
            ([(0, 1), (0, 1), (0, 1)], [2]),
            ([(0, 1), (1, 2)], [2]),
            ([(0, 1), (1, 2), (2, 0)], [2]),
            # There and back to place 2 are two hours, a round over the others two more.
            ([(0, 1), (0, 1), (1, 2)], [3]),
            ([(0, 1), (1, 2), (2, 3)], [-33]),
            ([(0, 1), (0, 2), (0, 3)], [-33]),
            ([(0, 1), (2, 3)], [-33]),
        ):
            calls = layout(4, *[ends + (3,) for ends in channels]) + [("min_common_max_age",)]
            self.assertEqual(ask_last(*calls), answered, channels)

    def test_neither_the_ages_nor_the_max_ages_count(self):
        for max_ages in itertools.product((1, 2, 3), repeat=2):
            calls = layout(3, (0, 1, max_ages[0]), (1, 2, max_ages[1]))
            for place in (0, 1, 2):
                asked = put(place, *max_ages) + [("min_common_max_age",)]
                self.assertEqual(ask_last(*(calls + asked)), [2], (max_ages, place))

    def test_at_the_current_position(self):
        calls = layout(4, (0, 1, 1), (1, 0, 1), (0, 1, 2))
        for place, answered in ((0, [2]), (1, [2]), (2, [-33]), (3, [-33])):
            self.assertEqual(ask_last(*(calls + put(place) + [("min_common_max_age",)])), answered)

    def test_every_place_of_some_layouts(self):
        for place_count, channels in LAYOUTS:
            for place in range(place_count):
                fresh = (place, (0,) * len(channels))
                values = [
                    max_age for max_age in (1, 2, 3)
                    if Chart([channel[:2] + (max_age,) for channel in channels]).is_safe(fresh)
                ]
                calls = layout(place_count, *channels) + put(place) + [("min_common_max_age",)]
                expected = [min(values)] if values else [-33]
                self.assertEqual(ask_last(*calls), expected, (place_count, channels, place))


class RequiredTrips(unittest.TestCase):
    def test_without_channels(self):
        self.assertEqual(ask_last(("create", 2), ("required_trips",)), [0, 12])

    def test_the_trips_of_the_channels_are_added(self):
        for max_ages, trips in (
            ((1,), 6), ((2,), 4), ((3,), 3), ((1, 1), 12), ((1, 2), 10), ((3, 1), 9), ((2, 3), 7), ((3, 3), 6),
            ((1, 2, 3), 13), ((1, 1, 1), 18), ((2, 2, 2), 12), ((3, 3, 3), 9), ((1, 3, 3), 12), ((2, 3, 2), 11),
        ):
            calls = layout(4, *[(0, 3, max_age) for max_age in max_ages]) + [("required_trips",)]
            self.assertEqual(ask_last(*calls), [trips, 12])

    def test_neither_ages_nor_places_count(self):
        calls = layout(4, (1, 2, 3), (2, 3, 2))
        for place in range(4):
            for ages in ((0, 0), (3, 2)):
                self.assertEqual(ask_last(*(calls + put(place, *ages) + [("required_trips",)])), [7, 12])

    def test_it_goes_with_the_max_ages_and_channels(self):
        answered = ask(*(layout(2, (0, 1, 1), (0, 1, 2)) + [
            ("required_trips",), ("set_max_age", 0, 3), ("required_trips",), ("remove_channel", 1), ("required_trips",),
        ]))
        self.assertEqual(answered[3::2], [[10, 12], [7, 12], [3, 12]])

    def test_at_most_12_in_a_safe_state(self):
        safe = 0
        for kind in itertools.product(((0, 1), (1, 2), (0, 2)), (1, 2, 3), repeat=3):
            channels = [ends + (max_age,) for ends, max_age in zip(kind[::2], kind[1::2])]
            for place in range(3):
                calls = layout(3, *channels) + put(place) + [("is_safe",), ("required_trips",)]
                is_safe, required = ask(*calls)[-2:]
                if is_safe == [1]:
                    safe += 1
                    self.assertLessEqual(required[0], 12, channels)
        self.assertGreater(safe, 100)


class TheInstanceIsNotChanged(unittest.TestCase):
    def test_by_any_of_the_questions(self):
        shown = [("list_channels",), ("summary",), ("legal_moves",), ("safe_moves",)]
        asked = [
            ("is_safe",), ("safe_start_places",), ("tight_channels",), ("min_common_max_age",), ("required_trips",),
            ("is_safe_with_max_age", 0, 1), ("is_safe_with_max_age", 0, 3), ("is_safe_with_max_age", 1, 1),
        ]
        path = layout(3, (0, 1, 3), (1, 2, 3))
        for calls in (path, path + put(0, 0, 2), path + put(2, 3, 3), path + [("travel", 0), ("wait",)]):
            for question in asked:
                answered = ask(*(calls + shown + [question] + shown + [question]))[len(calls):]
                self.assertEqual(answered[:5], answered[5:], (calls, question))


if __name__ == "__main__":
    unittest.main()
