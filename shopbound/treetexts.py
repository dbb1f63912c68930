"""Trees as texts: words with one blank between."""

from shopbound.errors import NoTree
from shopbound.forms import are_unlike
from shopbound.trees import MOST_COUNTED, MOST_WITHIN
from shopbound.words import is_name, is_numeral, number_of

MOMENT_FIGURES = 7
START_FIGURES = 40


def words_of_leaf(leaf):
    """The words of a leaf."""
    if leaf[0] == "ring":
        return ["ring"] + leaf[1]
    if leaf[0] == "stretch":
        return ["stretch", str(leaf[2]), str(leaf[3])] + leaf[1]
    return [str(part) for part in leaf]


def words_within(tree):
    """The words of a tree that stands within another one."""
    return ["["] + words_of_tree(tree) + ["]"]


def words_of_tree(tree):
    """The words of a tree."""
    words = []
    for row in tree[0]:
        if row[0] == "not":
            words.extend(["not"] + [str(part) for part in row[1]] + [str(row[2])] + words_within(row[3]))
        else:
            words.extend(list(row))
    words.append(";")
    end = tree[1]
    if end[0] == "both":
        words.extend(["both"] + [str(part) for part in end[1]] + words_within(end[2]) + words_within(end[3]))
    else:
        words.extend(words_of_leaf(end))
    return words


def show_tree(tree):
    """The text of a tree."""
    return " ".join(words_of_tree(tree))


class TreeWords:
    """The words of a text, taken from the left, and how many rows, nots, boths and leaves they told so far."""

    def __init__(self, words):
        self.words = words
        self.place = 0
        self.counted = 0

    def ahead_of_all(self):
        """The word that is taken next; one without signs behind the last."""
        return self.words[self.place] if self.place < len(self.words) else ""

    def take(self):
        """Takes a word."""
        word = self.ahead_of_all()
        self.place = self.place + 1
        return word

    def take_just(self, asked):
        """Takes one of the words asked for."""
        word = self.take()
        if word not in asked:
            raise NoTree("a word where another one is wanted")
        return word

    def take_name(self):
        """Takes a name."""
        word = self.take()
        if not is_name(word):
            raise NoTree("no name where one is wanted")
        return word

    def take_names(self):
        """Takes one name, and all that stand right behind it."""
        names = [self.take_name()]
        while is_name(self.ahead_of_all()):
            names.append(self.take())
        return names

    def take_number(self, most_figures):
        """Takes a number from 0 on."""
        word = self.take()
        if len(word) > most_figures or not is_numeral(word):
            raise NoTree("no number where one is wanted")
        return number_of(word)

    def take_start(self):
        """Takes a number that may be below 0."""
        if not self.ahead_of_all().startswith("-"):
            return self.take_number(START_FIGURES)
        word = self.take()[1:]
        if len(word) > START_FIGURES or not is_numeral(word) or word == "0":
            raise NoTree("no number behind its sign")
        return -number_of(word)

    def count_one(self):
        """Counts a row, a not, a both or a leaf."""
        self.counted = self.counted + 1
        if self.counted > MOST_COUNTED:
            raise NoTree("too many rows, nots, boths and leaves")

    def is_behind_all(self):
        """Whether every word was taken."""
        return self.place == len(self.words)


def read_choice(words):
    """The choice that the next words write."""
    word = words.take_just(["start", "on", "order", "keep"])
    step = words.take_name()
    if word == "keep":
        return (word, step)
    if word == "start":
        return (word, step, words.take_start())
    return (word, step, words.take_name())


def read_part(words, depth):
    """The row or not that the next words write, in a tree so deep."""
    words.count_one()
    word = words.take_just(["low", "high", "fit", "not"])
    if word == "not":
        choice = read_choice(words)
        side = 0 if words.take_just(["0", "1"]) == "0" else 1
        return (word, choice, side, read_within(words, depth))
    if word == "fit":
        return (word, words.take_name())
    one = words.take_name()
    return (word, one, words.take_name())


def read_ends(words):
    """The moments l and r that the next words write."""
    l = words.take_number(MOMENT_FIGURES)
    r = words.take_number(MOMENT_FIGURES)
    if l >= r:
        raise NoTree("l is not less than r")
    return (l, r)


def read_stretch(words):
    """The leaf stretch that the next words write, behind its first word."""
    ends = read_ends(words)
    benches = words.take_names()
    if not are_unlike(benches):
        raise NoTree("a bench stands twice in a stretch")
    return ("stretch", benches, ends[0], ends[1])


def read_end(words, depth):
    """The leaf or both that the next words write, in a tree so deep."""
    words.count_one()
    word = words.take_just(["both", "window", "ring", "stretch", "together", "stock", "moved"])
    if word == "both":
        choice = read_choice(words)
        side_tree = read_within(words, depth)
        return (word, choice, side_tree, read_within(words, depth))
    if word == "window":
        return (word, words.take_name())
    if word == "ring":
        return (word, words.take_names())
    if word == "stretch":
        return read_stretch(words)
    if word == "together":
        job = words.take_name()
        ends = read_ends(words)
        return (word, job, ends[0], ends[1])
    if word == "stock":
        stock = words.take_name()
        t = words.take_number(MOMENT_FIGURES)
        return (word, stock, t, words.take_just(["less", "more"]))
    return (word,)


def read_within(words, depth):
    """The tree in brackets that the next words write, within a tree so deep."""
    words.take_just(["["])
    tree = read_next_tree(words, depth + 1)
    words.take_just(["]"])
    return tree


def read_next_tree(words, depth):
    """The tree that the next words write; it is so deep itself."""
    if depth > MOST_WITHIN:
        raise NoTree("too many trees within one another")
    rows = []
    while words.ahead_of_all() != ";":
        rows.append(read_part(words, depth))
    words.take()
    return (rows, read_end(words, depth))


def read_tree(text):
    """The tree of a text, or NoTree."""
    if not isinstance(text, str):
        raise NoTree("a tree is read from a text alone")
    words = TreeWords(text.split(" "))
    tree = read_next_tree(words, 1)
    if not words.is_behind_all():
        raise NoTree("words behind the tree")
    return tree
