"""What counts as a whole number here."""


# Python counts True and False among its whole numbers; here they are none.
def is_whole(value):
    return isinstance(value, int) and not isinstance(value, bool)


def is_below(value, many):
    return is_whole(value) and 0 <= value < many


def is_from_nought(value):
    return is_whole(value) and value >= 0
