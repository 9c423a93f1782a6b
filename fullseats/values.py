"""The written forms of channels and values outside of processes."""

from fullseats.basics import int_text


def channel_text(channel):
    """The written form of a channel."""
    return ":".join([int_text(number) for number in channel])


def value_text(value):
    """The written form of a value."""
    return channel_text(value) if isinstance(value, tuple) else int_text(value)
