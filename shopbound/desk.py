"""The desk: it keeps shops and plans by names, is told rows of words, and answers each with a text."""

from shopbound.bound import bound_of
from shopbound.builders import made_better, row_by
from shopbound.checker import is_shut_by
from shopbound.days import planned_anew
from shopbound.deskwords import forms_of, words_of
from shopbound.errors import NoName, NoSay
from shopbound.facts import Facts
from shopbound.plantexts import read_plan, shown_plan
from shopbound.schedules import first_broken, length_of
from shopbound.shopreader import read_shop
from shopbound.shopwriter import shown_shop
from shopbound.treetexts import read_tree, show_tree

# a shop's rows stand in one row of the desk
PARTING = "; "


class Desk:
    """Shops and plans by names, and the tree that was told last."""

    def __init__(self):
        self.shops = {}
        self.plans = {}
        self.last_tree = None

    def look_for_names(self, words):
        """NoName where a shop or a plan of a row does not stand by its name."""
        for word, form in zip(words[1:], forms_of(words[0])):
            if (form == "shop" and word not in self.shops) or (form == "plan" and word not in self.plans):
                raise NoName(f"no {form} by the name {word}")

    def look_at_moments(self, words):
        """NoSay where a moment of a row lies above the horizon of its shop."""
        for word, form in zip(words[1:], forms_of(words[0])):
            if form == "moment" and int(word) > self.shops[words[1]].last_moment():
                raise NoSay("a moment above the horizon")

    def put_plan(self, name, schedule):
        """Puts a schedule, where one is there, by a name."""
        if schedule is not None:
            self.plans[name] = schedule

    def put_text(self, kind, name, text):
        """Reads a shop or a plan, and puts it by a name."""
        if kind == "shop":
            self.shops[name] = read_shop(text.replace(PARTING, "\n"))
        else:
            self.plans[name] = read_plan(text)
        return "ok"

    def look(self, shop, plan):
        """Whether a plan keeps a shop."""
        broken = first_broken(shop, plan)
        if broken is not None:
            return " ".join([str(part) for part in broken])
        length = length_of(shop, plan)
        return f"kept {length}"

    def build(self, shop, rule, tries, name):
        """What is built by a rule's row and made better by so many tries, put by a name."""
        row = row_by(shop, rule)
        schedule = None if row is None else made_better(shop, row, tries)[1]
        self.put_plan(name, schedule)
        return "none" if schedule is None else str(length_of(shop, schedule))

    def bound(self, shop, boths, name):
        """The bound of a shop; its schedule is put by a name."""
        told = bound_of(shop, boths)
        self.last_tree = told[-1]
        if told[0] == "none":
            return "none"
        self.put_plan(name, told[1])
        length = "-" if told[1] is None else length_of(shop, told[1])
        if told[0] == "best":
            return f"best {length}"
        low = told[2]
        return f"open {length} {low}"

    def plan_day(self, shop, words):
        """A day planned anew; its schedule is put by a name."""
        told = planned_anew(shop, self.plans[words[2]], int(words[3]), int(words[4]), int(words[5]))
        self.last_tree = told[-1]
        if told[0] == "none":
            return "none"
        self.put_plan(words[6], told[1])
        if told[0] == "least":
            return " ".join(["least"] + told[2])
        low = told[2]
        return f"open {low}"

    def check(self, shop, limit, text):
        """Whether the tree of a text shuts the facts of a shop and a limit."""
        return "shut" if is_shut_by(Facts(shop, limit), read_tree(text)) else "not"

    def answer_of_shop(self, words):
        """The answer to a row whose second word is a shop."""
        shop = self.shops[words[1]]
        if words[0] == "shown":
            return shown_shop(shop).replace("\n", PARTING)
        if words[0] == "look":
            return self.look(shop, self.plans[words[2]])
        if words[0] == "build":
            return self.build(shop, words[2], 0, words[3])
        if words[0] == "better":
            return self.build(shop, words[2], int(words[3]), words[4])
        if words[0] == "bound":
            return self.bound(shop, int(words[2]), words[3])
        if words[0] == "check":
            return self.check(shop, int(words[2]), words[3])
        return self.plan_day(shop, words)

    def say(self, row):
        """The answer to a row; what is refused changes nothing."""
        words = words_of(row)
        self.look_for_names(words)
        self.look_at_moments(words)
        if words[0] in ("shop", "plan"):
            return self.put_text(words[0], words[1], words[2])
        if words[0] == "told":
            return shown_plan(self.plans[words[1]])
        if words[0] == "tree":
            return "none" if self.last_tree is None else show_tree(self.last_tree)
        return self.answer_of_shop(words)
