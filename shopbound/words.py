"""Whole numbers and names: the words of which all else is made."""

LONGEST_NAME = 8


def is_whole(thing):
    """Whether a thing is a whole number: True and False are none."""
    return isinstance(thing, int) and not isinstance(thing, bool)


def is_name(thing):
    """Whether a thing is a text of one to eight small letters."""
    if not isinstance(thing, str) or not 1 <= len(thing) <= LONGEST_NAME:
        return False
    # islower would let letters of other alphabets by
    return all(["a" <= sign <= "z" for sign in thing])
