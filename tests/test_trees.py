"""[1], [2], [11] and [12]: standing sets with given names, and what is told with trees."""

import itertools
import random
import unittest

import papers
import plain
from strikeweave.lists import greatest_sets, outright_sets
from strikeweave.treecheck import shows_greatest, shows_none, shows_outright
from strikeweave.trees import greatest_with, outright_with, standing_with
from strikeweave.webs import Web


def depth(thing):
    """How deep tuples and lists lie within one another here."""
    if not isinstance(thing, (list, tuple)):
        return 0
    return 1 + max([depth(one) for one in thing], default=0)


def size(tree):
    return 1 if tree[0] == "clash" else 1 + sum(size(one) for one in tree[-1])


class StandingWith(unittest.TestCase):
    def check(self, names, strikes, somes, standing):
        web = Web(plain.shuffled(41, names), plain.shuffled(42, strikes))
        for some in somes:
            for handed in (list(some), tuple(some), list(some)[::-1]):
                was = list(handed)
                told = standing_with(web, handed)
                self.check_told(web, names, strikes, handed, told, standing)
                plain.spoil(told)
                self.assertEqual(list(handed), was)
                again, more = standing_with(web, handed), standing_with(web, handed)
                self.check_told(web, names, strikes, handed, again, standing)
                self.assertEqual(again, more)
                lists = plain.told_lists([again, more])
                self.assertEqual(len({id(one) for one in lists}), len(lists))
        self.assertEqual((web.all_names(), web.all_strikes()), (sorted(names), sorted(strikes)))

    def check_told(self, web, names, strikes, some, told, standing):
        self.assertIs(type(told), tuple)
        self.assertEqual(len(told), 2)
        word, thing = told
        if any(set(some) <= set(one) for one in standing):
            self.assertEqual(word, "told")
            self.assertIs(type(thing), list)
            self.assertEqual(thing, sorted(thing))
            self.assertTrue(plain.standing(strikes, thing) and set(some) <= set(thing))
        else:
            self.assertEqual(word, "none")
            self.assertTrue(papers.shows_none(names, strikes, some, thing))
            self.assertIs(shows_none(web, some, thing), True)
            self.assertLessEqual(depth(thing), 40)

    def test_by_hand(self):
        web = Web(["c", "b", "a"], [("a", "b"), ("b", "c"), ("c", "c")])
        self.assertEqual(standing_with(web, ["a"]), ("told", ["a"]))
        self.assertEqual(standing_with(web, ["b"]), ("none", ("answer", "b", "a", ())))
        self.assertEqual(standing_with(web, ["c"]), ("none", ("clash", "c", "c")))
        self.assertEqual(standing_with(web, ["a", "b"]), ("none", ("clash", "a", "b")))
        self.assertEqual(standing_with(web, ["b", "a"]), ("none", ("clash", "a", "b")))

    def test_an_answer_that_needs_another_one(self):
        web = Web(["a", "b", "c", "d"], [("b", "a"), ("c", "b"), ("d", "c")])
        self.assertEqual(standing_with(web, ["a"]), ("none", ("answer", "a", "b", (("answer", "c", "d", ()),))))
        self.assertEqual(standing_with(web, ["b"]), ("told", ["b", "d"]))

    def test_of_none_of_the_names(self):
        for names, strikes in ([[], []], [["a"], [("a", "a")]], plain.row_web(12), plain.ring_web(11)):
            self.check(names, strikes, [[]], [[]])

    def test_all_sets_of_small_webs(self):
        for names, strikes in plain.all_small_webs():
            self.check(names, strikes, plain.subsets(names), plain.all_standing(names, strikes))

    def test_all_sets_of_others(self):
        for names, strikes in itertools.chain(plain.some_webs(43, 25, 6), plain.drawn_webs(44, 25, 4, 6)):
            self.check(names, strikes, plain.subsets(names), plain.all_standing(names, strikes))

    def test_up_to_twelve_names(self):
        source = random.Random(45)
        webs = plain.drawn_webs(46, 25, 10, 12) + [plain.ring_web(12), plain.ring_web(11), plain.row_web(12)]
        for names, strikes in webs:
            somes = [source.sample(names, many) for many in (1, 1, 2, 2, 3, 5)] + [names]
            self.check(names, strikes, somes, plain.all_standing(names, strikes))

    def test_a_long_row_of_answers(self):
        # Each name of an odd row leans on the next but one, up to the last, which nothing answers for.
        names, strikes = plain.row_web(12)
        web = Web(names, [(other, one) for one, other in strikes])
        word, tree = standing_with(web, [names[0]])
        self.assertEqual((word, size(tree)), ("none", 6))
        self.assertEqual(standing_with(web, [names[1]]), ("told", names[1::2]))

    def test_somewhat_beyond_the_bounds_nothing_is_refused(self):
        names, strikes = plain.cliques([3] * 6)
        web = Web(names + ["z"], strikes + [("z", "z"), ("z", "aa")])
        word, some = standing_with(web, ["ab", "bc"])
        self.assertEqual(word, "told")
        self.assertTrue(plain.standing(web.all_strikes(), some) and {"ab", "bc"} <= set(some))
        self.assertEqual(standing_with(web, ["aa"])[0], "none")


class With(unittest.TestCase):
    """greatest_with and outright_with"""

    def check(self, names, strikes, greatest=None, outright=None):
        web = Web(plain.shuffled(47, names), plain.shuffled(48, strikes))
        greatest = plain.all_greatest(names, strikes) if greatest is None else greatest
        outright = plain.all_outright(names, strikes) if outright is None else outright
        self.check_one(web, greatest_with, greatest_sets, greatest, shows_greatest, papers.shows_greatest)
        self.check_one(web, outright_with, outright_sets, outright, shows_outright, papers.shows_outright)
        self.assertEqual((web.all_names(), web.all_strikes()), (sorted(names), sorted(strikes)))

    def check_one(self, web, deed, lists, right, shows, plainly):
        told = deed(web)
        self.assertIs(type(told), tuple)
        self.assertEqual(len(told), 2)
        sets, tree = told
        self.assertEqual(sets, right)
        self.assertEqual(sets, lists(web))
        self.assertTrue(plainly(web.all_names(), web.all_strikes(), sets, tree))
        self.assertIs(shows(web, sets, tree), True)
        self.assertIs(shows(web, tuple(tuple(some) for some in sets), tree), True)
        self.assertLessEqual(depth(tree), 40)
        again, more = deed(web), deed(web)
        self.assertEqual(again, more)
        self.assertEqual(again, told)
        plain.spoil(told)
        self.assertEqual(again, more)
        self.assertEqual(deed(web), more)
        found = plain.told_lists([again, more])
        self.assertEqual(len({id(one) for one in found}), len(found))

    def test_by_hand(self):
        web = Web(["b", "a"], [("a", "b"), ("b", "a")])
        sets, tree = greatest_with(web)
        self.assertEqual(sets, [["a"], ["b"]])
        self.assertEqual(tree[0], "beyond")
        sets, tree = outright_with(web)
        self.assertEqual(sets, [["a"], ["b"]])
        self.assertEqual(tree[0], "cover")

    def test_the_empty_web(self):
        web = Web([], [])
        self.assertEqual(greatest_with(web), ([[]], ("beyond", 0, ())))
        self.assertEqual(outright_with(web), ([[]], ("beyond", 0, ())))
        self.check([], [])

    def test_no_outright_set(self):
        web = Web(["a"], [("a", "a")])
        self.assertEqual(outright_with(web), ([], ("cover", "a", (("clash", "a", "a"),))))
        for many in (1, 3, 5, 11):
            self.check(*plain.ring_web(many))

    def test_names_without_strikes(self):
        for many in (1, 5, 12):
            names = plain.row_web(many)[0]
            self.check(names, [], [names], [names])

    def test_all_small_webs(self):
        for names, strikes in plain.all_small_webs():
            self.check(names, strikes)

    def test_greater_webs(self):
        for names, strikes in itertools.chain(plain.some_webs(49, 60, 8), plain.drawn_webs(50, 60, 4, 8)):
            self.check(names, strikes)

    def test_up_to_twelve_names(self):
        webs = plain.drawn_webs(51, 25, 11, 12) + [plain.ring_web(12), plain.ring_web(11), plain.row_web(12)]
        for names, strikes in webs:
            self.check(names, strikes)

    def test_the_most_sets_of_twelve_names(self):
        for sizes in ([3] * 4, [2] * 6, [4] * 3, [12]):
            names, strikes = plain.cliques(sizes) if sizes != [12] else (
                plain.row_web(12)[0], list(itertools.permutations(plain.row_web(12)[0], 2)))
            ends = list(itertools.accumulate(sizes))
            groups = [names[end - many:end] for many, end in zip(sizes, ends)]
            right = sorted(list(some) for some in itertools.product(*groups))
            self.check(names, strikes, right, right)


if __name__ == "__main__":
    unittest.main()
