"""[2], [13] and [22]: which tuples of the fewest strikes are taken, and which are not."""

import itertools
import random
import unittest

import papers
import plain
from strikeweave.errors import NoName
from strikeweave.fewcheck import shows_fewest
from strikeweave.fewest import fewest
from strikeweave.webs import Web

DEAR = ("dear",)


class Looks(unittest.TestCase):
    """What is asked here is asked of a plain look, too."""

    def ask(self, names, strikes, name, told):
        was = repr(told)
        answer = shows_fewest(Web(names, strikes), name, told)
        self.assertIs(answer, papers.shows_fewest(names, strikes, name, told), (strikes, name, told))
        self.assertEqual(repr(told), was)
        if answer:
            self.assertEqual(told[0], plain.least_cost(names, strikes, name), "what is taken is right")
        return answer


class ByHand(Looks):
    # b strikes a, c strikes b, d strikes c, and e strikes itself and a.
    NAMES = list("abcde")
    STRIKES = plain.pairs_of("ba cb dc ee ea")

    def asked(self, told, name="a"):
        return self.ask(self.NAMES, self.STRIKES, name, told)

    def test_taken(self):
        self.assertEqual(fewest(Web(self.NAMES, self.STRIKES), "a")[0], 2)
        gone = [("b", "a"), ("e", "a")]
        tree = ("name", "e", DEAR, ("name", "b", DEAR, ("name", "c", ("name", "d", DEAR, DEAR), DEAR)))
        self.assertIs(self.asked((2, gone, ["a"], tree)), True)
        self.assertIs(self.asked((2, tuple(gone), ("a",), tree)), True)
        self.assertIs(self.asked((2, [("d", "c"), ("e", "a")], ["c", "a"], tree)), True)
        self.assertIs(self.asked((2, [("d", "c"), ("e", "a")], ("a", "c"), tree)), True)
        self.assertIs(self.asked((2, gone, ["d", "a"], tree)), True)

    def test_the_number(self):
        for number, right in ((1, True), (0, False), (2, False), (-1, False), (True, False), ("1", False), (None, False),
                              ([1], False), (10 ** 30, False)):
            self.assertIs(self.asked((number, [("e", "e")], ["e"], DEAR), "e"), right)
            self.assertIs(self.asked((number, [("c", "b")], ["b"], DEAR), "b"), False, "d answers c: none must go")
        self.assertIs(self.asked((0, [], ["d", "b"], DEAR), "b"), True)
        for number in (False, 1, -1, None, "0"):
            self.assertIs(self.asked((number, [], ["d", "b"], DEAR), "b"), False)

    def test_strikes(self):
        for gone in ([], [("e", "e"), ("e", "e")], [("e", "a")], [("b", "e")], [["e", "e"]], ["ee"], [("e",)], None, "e",
                     [None], [("e", "e", "e")], [("e", "e"), ("z", "e")], [("e", "z")], [[("e", "e")]], {("e", "e"): 1}):
            self.assertIs(self.asked((1, gone, ["e"], DEAR), "e"), False)
        tree = ("name", "e", DEAR, ("name", "b", DEAR, ("name", "c", ("name", "d", DEAR, DEAR), DEAR)))
        for gone in ([("e", "a"), ("b", "a")], [("a", "b"), ("e", "a")], [("b", "a"), ("b", "a")], [("b", "a")],
                     [("b", "a"), ("c", "b"), ("e", "a")], [("b", "a"), ("e", "e")]):
            self.assertIs(self.asked((2, gone, ["a"], tree)), False)

    def test_sets(self):
        for some in ([], ["a"], ["e", "e"], ["e", "z"], "e", None, [["e"]], ["e", None], ["e", "a"], {"e": 1}, ["E"]):
            self.assertIs(self.asked((1, [("e", "e")], some, DEAR), "e"), False)
        for some in (["e", "d"], ["d", "e"], ["e", "b", "d"], ("b", "d", "e")):
            self.assertIs(self.asked((1, [("e", "e")], some, DEAR), "e"), True)

    def test_trees(self):
        for tree in (None, "dear", ["dear"], (), ("dear", "dear"), ("dear", None), DEAR + ((),), ("Dear",), (None,),
                     (DEAR,), ("name", "a", DEAR), ("name", "a", DEAR, DEAR, DEAR), ["name", "a", DEAR, DEAR],
                     ("name", "e", DEAR, DEAR), ("name", "z", DEAR, DEAR), ("name", ["a"], DEAR, DEAR),
                     ("name", None, DEAR, DEAR), ("names", "a", DEAR, DEAR), ("dear", "a", DEAR, DEAR),
                     ("name", "a", DEAR, ("name", "a", DEAR, DEAR)), ("name", "a", ("name", "a", DEAR, DEAR), DEAR)):
            self.assertIs(self.asked((1, [("e", "e")], ["e"], tree), "e"), False)
        for tree in (DEAR, ("name", "a", DEAR, DEAR), ("name", "a", DEAR, ("name", "b", DEAR, DEAR))):
            self.assertIs(self.asked((1, [("e", "e")], ["e"], tree), "e"), True)

    def test_dear_too_early(self):
        names, strikes = ["a", "b", "c"], plain.pairs_of("ba cb bb")
        self.assertIs(self.ask(names, strikes, "a", (0, [], ["a", "c"], DEAR)), True)
        names, strikes = ["a", "b", "c"], plain.pairs_of("ba cb cc")
        told = (1, [("b", "a")], ["a"])
        right = ("name", "c", DEAR, ("name", "b", DEAR, DEAR))
        self.assertIs(self.ask(names, strikes, "a", told + (right,)), True)
        self.assertIs(self.ask(names, strikes, "a", told + (DEAR,)), False)
        self.assertIs(self.ask(names, strikes, "a", told + (("name", "c", DEAR, DEAR),)), False, "b may be held")
        self.assertIs(self.ask(names, strikes, "a", told + (("name", "b", DEAR, DEAR),)), False, "c may be held")
        # b strikes itself: as a barred one its strikers are barred only with c.
        strikes = plain.pairs_of("ba cb cc bb")
        self.assertIs(self.ask(names, strikes, "a", told + (right,)), True)

    def test_the_tuple(self):
        told = fewest(Web(self.NAMES, self.STRIKES), "e")
        for other in (list(told), told[:3], told + (None,), (told,), told[::-1], (), None, "e", 4, told[1:] + told[:1]):
            self.assertIs(self.asked(other, "e"), False)
        self.assertIs(self.asked(told, "e"), True)

    def test_names_that_are_none_of_the_webs(self):
        web = Web(self.NAMES, self.STRIKES)
        for name in ("z", "", "A", "ab", "a\n", None, 0, True, ["a"], ("a",)):
            for told in papers.THINGS + [fewest(web, "a"), fewest(web, "b")]:
                self.assertRaises(NoName, shows_fewest, web, name, told)
        self.assertRaises(NoName, shows_fewest, Web([], []), "a", (0, [], [], DEAR))


def told_otherwise(names, strikes, name, told):
    """What fewest tells with one thing otherwise, at any place."""
    number, gone, some, tree = told
    yield from papers.THINGS
    yield list(told)
    yield told[:3]
    yield told + (None,)
    for other in (number - 1, number + 1, -number, -1, 10 ** 30, bool(number), str(number), [number], None):
        yield (other,) + told[1:]
    for other in gone_otherwise(names, strikes, gone):
        yield (number, other, some, tree)
        if type(other) in (list, tuple):
            yield (len(other), other, some, tree)
    for other in papers.list_otherwise(some, lambda one: list(names) + papers.THINGS):
        yield (number, gone, other, tree)
    for other in list(names) + ["zz"]:
        yield (number, gone, some + [other], tree)
    yield (number, gone, [one for one in some if one != name], tree)
    for other in plain.subsets(names):
        yield (number, gone, list(other), tree)
    for other in papers.drawn(181, papers.few_tree_otherwise(names, tree), 400):
        yield (number, gone, some, other)


def gone_otherwise(names, strikes, gone):
    yield from papers.list_otherwise(gone, lambda pair: list(strikes) + [pair[::-1], list(pair), pair[:1], "".join(pair)])
    for pair in strikes:
        yield sorted(gone + [pair])
        yield gone + [pair]
    for one in names:
        yield sorted(gone + [(one, "zz")])
        yield sorted(gone + [(one, one)])


class Otherwise(Looks):
    def webs(self):
        return list(plain.all_small_webs())[3::7] + plain.drawn_webs(182, 18, 4, 6) + [
            plain.ring_web(3), plain.ring_web(5), plain.row_web(5), plain.cliques([2, 2])]

    def test_with_one_thing_otherwise(self):
        taken = wrong = 0
        for names, strikes in self.webs():
            for name in names:
                told = fewest(Web(names, strikes), name)
                self.assertIs(self.ask(names, strikes, name, told), True)
                for other in papers.drawn(183, told_otherwise(names, strikes, name, told), 600):
                    answer = self.ask(names, strikes, name, other)
                    taken += answer
                    wrong += not answer
        self.assertGreater(taken, 500)
        self.assertGreater(wrong, 5000)

    def test_of_another_name(self):
        for names, strikes in self.webs():
            for name in names:
                told = fewest(Web(names, strikes), name)
                for other in names:
                    self.ask(names, strikes, other, told)

    def test_of_twelve_names(self):
        for names, strikes in plain.drawn_webs(184, 4, 12, 12):
            for name in names[::4]:
                told = fewest(Web(names, strikes), name)
                self.assertIs(self.ask(names, strikes, name, told), True)
                for other in papers.drawn(185, told_otherwise(names, strikes, name, told), 25):
                    self.ask(names, strikes, name, other)

    def test_things_of_all_kinds(self):
        for names, strikes in ([["a"], [("a", "a")]], [["a"], []], plain.cliques([2]), plain.row_web(3)):
            right = fewest(Web(names, strikes), names[0])
            for thing in papers.THINGS:
                self.ask(names, strikes, names[0], thing)
                for at in range(4):
                    self.ask(names, strikes, names[0], right[:at] + (thing,) + right[at + 1:])
                    self.ask(names, strikes, names[0], right[:at] + ([thing],) + right[at + 1:])
                    self.ask(names, strikes, names[0], right[:at] + ((thing,),) + right[at + 1:])
                self.ask(names, strikes, names[0], right[:3] + (("name", names[-1], thing, DEAR),))
                self.ask(names, strikes, names[0], right[:3] + (("name", thing, DEAR, DEAR),))


class NotTold(Looks):
    """Tuples that were not told, but are so."""

    def test_other_cheapest_sets_and_drawn_trees(self):
        source = random.Random(186)
        fresh = 0
        webs = list(plain.all_small_webs())[::5] + plain.drawn_webs(187, 30, 4, 6)
        for names, strikes in webs:
            for name in names:
                told = fewest(Web(names, strikes), name)
                number = told[0]
                for some in plain.subsets(names):
                    gone = plain.to_go(strikes, some)
                    if name not in some or len(gone) != number:
                        continue
                    tree = papers.drawn_few_tree(source, names, strikes, number, [name], [])
                    for form in (list, tuple):
                        other = (number, form(gone), form(plain.shuffled(188, some)), tree)
                        self.assertIs(self.ask(names, strikes, name, other), True)
                        fresh += other[1:] != told[1:]
        self.assertGreater(fresh, 500)

    def test_dearer_sets_have_no_tree(self):
        source = random.Random(189)
        for names, strikes in list(plain.all_small_webs())[::5]:
            for name, some in itertools.product(names, plain.subsets(names)):
                gone = plain.to_go(strikes, some)
                tree = papers.drawn_few_tree(source, names, strikes, len(gone), [name], [])
                if name in some:
                    right = len(gone) == plain.least_cost(names, strikes, name)
                    self.assertEqual(tree is not None, right)
                    self.assertIs(self.ask(names, strikes, name, (len(gone), gone, some, tree)), right)


if __name__ == "__main__":
    unittest.main()
