"""What integers are here, and copies of values."""


def is_whole(value):
    """Whether the value is an integer; True and False are none."""
    return isinstance(value, int) and not isinstance(value, bool)


def is_index(value, many):
    """Whether the value is one of the integers from 0 to many - 1."""
    return is_whole(value) and 0 <= value < many


def copied(value):
    """The value, with lists and dicts of its own at every depth."""
    if isinstance(value, list):
        return [copied(item) for item in value]
    if isinstance(value, tuple):
        return tuple([copied(item) for item in value])
    if isinstance(value, dict):
        return {key: copied(value[key]) for key in value}
    return value
