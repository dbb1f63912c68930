"""Whole numbers and names, and numbers written in figures: the words of which all else is made."""

LONGEST_NAME = 8
FIGURES = "0123456789"


def is_whole(thing):
    """Whether a thing is a whole number: True and False are none."""
    return isinstance(thing, int) and not isinstance(thing, bool)


def is_name(thing):
    """Whether a thing is a text of one to eight small letters."""
    if not isinstance(thing, str) or not 1 <= len(thing) <= LONGEST_NAME:
        return False
    # islower would let letters of other alphabets by
    return all(["a" <= sign <= "z" for sign in thing])


def is_numeral(word):
    """Whether a word is written in figures alone, without a nought ahead but in 0 itself."""
    if word == "" or (word[0] == "0" and word != "0"):
        return False
    # isdigit would let figures of other alphabets by
    return all([sign in FIGURES for sign in word])


def number_of(numeral):
    """The number that a numeral writes."""
    number = 0
    # int refuses more than some thousand figures, and a text may have them
    for sign in numeral:
        number = number * 10 + FIGURES.index(sign)
    return number
