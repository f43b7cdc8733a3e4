"""Each error of each operation, which comes first, and that it changes nothing."""

import unittest

from helper import GREATEST, ask

# The icebreaker is at place 1, the ages are 1 and 2, two hours have elapsed.
SETUP = [
    ("create", 3), ("add_channel", 0, 1, 3), ("add_channel", 2, 1, 3), ("travel", 0), ("wait",),
]

# What shows the whole instance: it changes much, so it stands last.
PROBE = [
    ("list_channels",), ("summary",), ("is_safe",), ("first_plan", 8), ("safe_plan", 9),
    ("available_moves",), ("legal_moves",), ("safe_moves",),
    ("set_position", 3), ("set_position", 2), ("available_moves",), ("set_position", 0), ("available_moves",),
    ("set_age", 0, 0), ("set_age", 1, 0), ("set_age", 2, 0),
    ("set_max_age", 0, 2), ("set_max_age", 1, 2), ("set_max_age", 2, 2),
    ("reset",), ("remove_channel", 0), ("remove_channel", 0),
]

THIRD_CHANNEL = [("add_channel", 0, 1, 3)]

# Open, but both channels are due at once.
NOT_SAFE = [("set_age", 0, 3), ("set_age", 1, 3)]

# Only the channel at the other places is left.
OUT_OF_REACH = [("remove_channel", 1), ("set_position", 2)]

# What goes before, the call that is refused, and the code.
REFUSALS = [
    ([], ("create", 0), -22),
    ([], ("create", 1), -22),
    ([], ("create", 5), -22),
    ([], ("create", GREATEST), -22),

    ([], ("add_channel", 3, 0, 1), -2),
    ([], ("add_channel", 0, 3, 1), -2),
    ([], ("add_channel", GREATEST, 0, 1), -2),
    ([], ("add_channel", 0, GREATEST, 1), -2),
    ([], ("add_channel", 1, 1, 1), -22),
    ([], ("add_channel", 0, 1, 0), -22),
    ([], ("add_channel", 0, 1, 4), -22),
    ([], ("add_channel", 0, 1, GREATEST), -22),
    (THIRD_CHANNEL, ("add_channel", 0, 1, 1), -28),
    (THIRD_CHANNEL, ("add_channel", 2, 0, 3), -28),

    ([], ("remove_channel", 2), -2),
    ([], ("remove_channel", GREATEST), -2),
    (THIRD_CHANNEL, ("remove_channel", 3), -2),

    ([], ("set_max_age", 2, 1), -2),
    ([], ("set_max_age", GREATEST, 3), -2),
    ([], ("set_max_age", 0, 0), -22),
    ([], ("set_max_age", 1, 4), -22),
    ([], ("set_max_age", 1, GREATEST), -22),

    ([], ("set_position", 3), -2),
    ([], ("set_position", GREATEST), -2),

    ([], ("set_age", 2, 0), -2),
    ([], ("set_age", GREATEST, 0), -2),
    ([], ("set_age", 0, 4), -22),
    ([], ("set_age", 1, GREATEST), -22),
    ([("set_max_age", 0, 1)], ("set_age", 0, 2), -22),
    ([("set_max_age", 1, 2)], ("set_age", 1, 3), -22),

    ([], ("travel", 2), -2),
    ([], ("travel", GREATEST), -2),
    ([("set_position", 0)], ("travel", 1), -12),
    ([("set_position", 2)], ("travel", 0), -12),
    ([("set_age", 1, 3)], ("travel", 0), -35),
    ([("set_age", 0, 3)], ("travel", 1), -35),

    ([("set_age", 0, 3)], ("wait",), -35),
    ([("set_age", 1, 3)], ("wait",), -35),

    ([], ("first_plan", 10), -22),
    ([], ("first_plan", GREATEST), -22),
    (NOT_SAFE, ("first_plan", 1), -33),
    (NOT_SAFE, ("first_plan", 9), -33),
    (OUT_OF_REACH, ("first_plan", 9), -33),

    ([], ("safe_plan", 31), -22),
    ([], ("safe_plan", GREATEST), -22),
    (NOT_SAFE, ("safe_plan", 0), -33),
    (NOT_SAFE, ("safe_plan", 1), -33),
    (OUT_OF_REACH, ("safe_plan", 1), -33),
    (OUT_OF_REACH, ("safe_plan", 30), -33),

    ([], ("follow_safe_plan", 0), -22),
    ([], ("follow_safe_plan", 31), -22),
    ([], ("follow_safe_plan", GREATEST), -22),
    (NOT_SAFE, ("follow_safe_plan", 1), -33),
    (OUT_OF_REACH, ("follow_safe_plan", 1), -33),
    (OUT_OF_REACH, ("follow_safe_plan", 30), -33),

    (NOT_SAFE, ("tight_channels",), -33),
    (OUT_OF_REACH, ("tight_channels",), -33),

    ([], ("is_safe_with_max_age", 2, 1), -2),
    ([], ("is_safe_with_max_age", GREATEST, 3), -2),
    ([], ("is_safe_with_max_age", 0, 0), -22),
    ([], ("is_safe_with_max_age", 1, 4), -22),
    ([], ("is_safe_with_max_age", 1, GREATEST), -22),

    (OUT_OF_REACH, ("min_common_max_age",), -33),
]

TWO_AT_ONCE = [
    ([], ("add_channel", 3, 3, 1), -2),
    ([], ("add_channel", 3, 0, 0), -2),
    ([], ("add_channel", 0, 3, 4), -2),
    ([], ("add_channel", GREATEST, GREATEST, GREATEST), -2),
    (THIRD_CHANNEL, ("add_channel", 3, 0, 1), -2),
    (THIRD_CHANNEL, ("add_channel", 0, 3, 1), -2),
    (THIRD_CHANNEL, ("add_channel", 2, 2, 1), -22),
    (THIRD_CHANNEL, ("add_channel", 0, 1, 0), -22),
    (THIRD_CHANNEL, ("add_channel", 0, 1, 4), -22),
    (THIRD_CHANNEL, ("add_channel", 3, 3, 0), -2),
    ([], ("set_max_age", 2, 0), -2),
    ([], ("set_max_age", 2, 4), -2),
    ([], ("set_max_age", GREATEST, GREATEST), -2),
    ([], ("set_age", 2, 4), -2),
    ([], ("set_age", GREATEST, GREATEST), -2),
    ([("set_age", 0, 3), ("set_age", 1, 3)], ("travel", 2), -2),
    ([("set_position", 0), ("set_age", 0, 3)], ("travel", 1), -12),
    ([("set_position", 2), ("set_age", 1, 3)], ("travel", 0), -12),
    (NOT_SAFE, ("first_plan", 10), -22),
    (OUT_OF_REACH, ("first_plan", GREATEST), -22),
    (NOT_SAFE, ("safe_plan", 31), -22),
    (OUT_OF_REACH, ("safe_plan", GREATEST), -22),
    (NOT_SAFE, ("follow_safe_plan", 0), -22),
    (NOT_SAFE, ("follow_safe_plan", 31), -22),
    (OUT_OF_REACH, ("follow_safe_plan", GREATEST), -22),
    ([], ("is_safe_with_max_age", 2, 0), -2),
    ([], ("is_safe_with_max_age", 2, 4), -2),
    ([], ("is_safe_with_max_age", GREATEST, GREATEST), -2),
]


class Refusals(unittest.TestCase):
    def test_what_the_probe_shows(self):
        answered = ask(*(SETUP + PROBE))
        self.assertEqual(answered[:5], [[0], [0], [1], [1, 0, 1], [1, 1, 2]])
        self.assertEqual(answered[5:8], [[2, 0, 1, 3, 1, 2, 1, 3, 2], [3, 2, 1, 2], [1]])
        # A second wait at place 2 is open, but channel 0 can't be reached behind it.
        self.assertEqual(answered[8:10], [[8, 2, 2, 1, 0, 1, 2, 0, 0], [9, 2, 2, 1, 0, 1, 2, 0, 2, 1]])
        # Waiting or channel 0 leaves too little time for both channels.
        self.assertEqual(answered[10:13], [[3, 0, 1, 2], [3, 0, 1, 2], [1, 2]])
        self.assertEqual(answered[13:18], [[-2], [1], [2, 0, 2], [2], [2, 0, 1]])
        self.assertEqual(answered[18:21], [[1], [2], [-2]])
        self.assertEqual(answered[21:], [[3], [3], [-2], [2], [1], [0]])

    def check(self, before, refused, code):
        with self.subTest(before=before, refused=refused):
            answered = ask(*(SETUP + before + [refused] + PROBE))
            spared = ask(*(SETUP + before + PROBE))
            until = len(SETUP) + len(before)
            self.assertEqual(answered[:until], spared[:until])
            self.assertEqual(answered[until], [code])
            self.assertEqual(answered[until + 1:], spared[until:])

    def test_each_error(self):
        for before, refused, code in REFUSALS:
            self.check(before, refused, code)

    def test_the_error_listed_first_is_answered(self):
        for before, refused, code in TWO_AT_ONCE:
            self.check(before, refused, code)

    def test_a_channel_that_was_removed_is_not_there(self):
        answered = ask(
            ("create", 2), ("add_channel", 0, 1, 3), ("remove_channel", 0),
            ("remove_channel", 0), ("set_max_age", 0, 1), ("set_age", 0, 0), ("travel", 0),
        )
        self.assertEqual(answered[3:], [[-2], [-2], [-2], [-2]])


if __name__ == "__main__":
    unittest.main()
