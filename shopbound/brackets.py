"""The least size of a schedule, taken between a low and a top that draw near one another.

A size is the length of a schedule, or how many steps it moves. What is told of a size k is a tuple as searched tells
it: found with a schedule of at most that size, shut with a tree by which there is none, or spent.
"""

MOST_FOUND = 20


class Bracket:
    """No schedule has a size below low, by the tree; the schedule, where one is there, has the size top."""

    def __init__(self, low, tree, top, schedule):
        self.low = low
        self.tree = tree
        self.top = top
        self.schedule = schedule

    def is_closed(self):
        """Whether the schedule is there and none has a lesser size."""
        return self.schedule is not None and self.low == self.top


def ask_at(bracket, k, ask, size_of):
    """Takes in what is told of a size k; tells the word."""
    told = ask(k)
    if told[0] == "found":
        bracket.schedule = told[1]
        bracket.top = size_of(told[1])
    if told[0] == "shut":
        bracket.low = k + 1
        bracket.tree = told[1]
    return told[0]


def halve(bracket, below, ask, size_of):
    """Asks in the middle of what is left below a size, then in the one half or the other; tells where it is spent."""
    while bracket.low < below:
        k = (bracket.low + below - 1) // 2
        word = ask_at(bracket, k, ask, size_of)
        if word == "found":
            below = bracket.top
        if word == "spent":
            below = k
    return below


def draw_near(bracket, below, ask, size_of):
    """Raises the low of a bracket, from sizes below one, and lowers its top, as far as it is told."""
    spent = halve(bracket, below, ask, size_of)
    # where the middle is too hard, it may still be told right below the top
    for turn in range(MOST_FOUND):
        if bracket.schedule is None or bracket.top - 1 <= spent:
            return
        if ask_at(bracket, bracket.top - 1, ask, size_of) != "found":
            return
