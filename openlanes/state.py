"""What is held from one operation of a request to the next."""


class Channel:
    """A channel between two places; its age is held by the instance."""

    def __init__(self, end_a, end_b, max_age):
        self.end_a = end_a
        self.end_b = end_b
        self.max_age = max_age


class Instance:
    """The places, the channels with their ages, and the icebreaker.

    The ages stand in the order of the channels. They are held apart from
    them because a state to be weighed is a place and ages, over the same
    channels.
    """

    def __init__(self, place_count):
        self.place_count = place_count
        self.channels = []
        self.ages = []
        self.place = 0
        self.hours_elapsed = 0


class Request:
    """One list of calls, with the instance that they work on."""

    def __init__(self):
        self.instance = None
