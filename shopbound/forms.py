"""Forms that anything at all may be asked for: lists, tuples, bounded numbers, known names.

Every thing is asked for its kind before it is compared or looked into.
"""

from shopbound.words import is_name, is_whole


def is_within(thing, least, most):
    """Whether a thing is a whole number from least to most."""
    return is_whole(thing) and least <= thing <= most


def is_list(thing, least, most):
    """Whether a thing is a list of at least and at most so many things."""
    return isinstance(thing, list) and least <= len(thing) <= most


def is_tuple(thing, many):
    """Whether a thing is a tuple of just so many parts."""
    return isinstance(thing, tuple) and len(thing) == many


def is_one_of(thing, names):
    """Whether a thing is one of these names."""
    return is_name(thing) and thing in names


def are_unlike(things):
    """Whether no thing stands twice among names, or tuples of names."""
    return len(set(things)) == len(things)
