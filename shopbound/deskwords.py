"""The rows that a desk is told, looked at by their form alone."""

from shopbound.builders import RULES
from shopbound.errors import NoSay
from shopbound.shopreader import is_number
from shopbound.words import is_name

# what stands behind the first word of each row; "text" stands for all behind its blank, perhaps no sign
FORMS = {
    "shop": ("name", "text"),
    "plan": ("name", "text"),
    "shown": ("shop",),
    "told": ("plan",),
    "look": ("shop", "plan"),
    "build": ("shop", "rule", "name"),
    "better": ("shop", "rule", "tries", "name"),
    "bound": ("shop", "boths", "name"),
    "tree": (),
    "check": ("shop", "moment", "text"),
    "day": ("shop", "plan", "moment", "moment", "boths", "name"),
}
MOST_TRIES = 200
MOST_BOTHS = 400


def is_number_to(word, most):
    """Whether a word writes a number up to the most."""
    return is_number(word) and int(word) <= most


def has_form(word, form):
    """Whether a word may stand at its place in a row."""
    if form == "rule":
        return word in RULES
    if form == "moment":
        return is_number(word)
    if form == "tries":
        return is_number_to(word, MOST_TRIES)
    if form == "boths":
        return is_number_to(word, MOST_BOTHS)
    if form == "text":
        # blanks too many in it are for the stage that reads it to refuse
        return True
    return is_name(word)


def forms_of(word):
    """What stands behind the first word of a row, a tuple."""
    return FORMS[word]


def words_of(row):
    """The words of a row, a text at its end as one of them; NoSay for what is no row."""
    if not isinstance(row, str) or "\n" in row:
        raise NoSay("a row is a text without line feeds")
    first = row.partition(" ")[0]
    if first not in FORMS:
        raise NoSay("no word that a row begins with")
    forms = FORMS[first]
    words = row.split(" ", len(forms)) if "text" in forms else row.split(" ")
    if len(words) != len(forms) + 1 or not all([has_form(word, form) for word, form in zip(words[1:], forms)]):
        raise NoSay("not the words that such a row has")
    return words
