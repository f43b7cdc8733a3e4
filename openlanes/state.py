"""What is held from one operation of a request to the next."""

LEAST_MAX_AGE = 1
MOST_MAX_AGE = 3


class Channel:
    """A channel between two places; its age is held by the instance."""

    def __init__(self, end_a, end_b, max_age):
        self.end_a = end_a
        self.end_b = end_b
        self.max_age = max_age


class Instance:
    """The places, the channels with their ages, and the icebreaker.

    The ages stand in the order of the channels. They are held apart from
    them because a state to be weighed is a place and ages, over the same
    channels.
    """

    def __init__(self, place_count):
        self.place_count = place_count
        self.channels = []
        self.ages = []
        self.place = 0
        self.hours_elapsed = 0


class Request:
    """One list of calls, with the instance that they work on."""

    def __init__(self):
        self.instance = None


def current_state(instance):
    """The state that the icebreaker and the channels are in."""
    return (instance.place, tuple(instance.ages))


def fresh_ages(instance):
    """An age of 0 for each channel."""
    return [0] * len(instance.channels)


def change_max_age(instance, number, max_age):
    """Gives a channel another maximum age, and keeps it open by it."""
    instance.channels[number].max_age = max_age
    instance.ages[number] = min(instance.ages[number], max_age)


def copy_of(instance):
    """Another instance that is like this one, to try changes on."""
    copied = Instance(instance.place_count)
    for channel in instance.channels:
        copied.channels.append(Channel(channel.end_a, channel.end_b, channel.max_age))
    copied.ages = list(instance.ages)
    copied.place = instance.place
    copied.hours_elapsed = instance.hours_elapsed
    return copied
