"""[1], [2], [13] and [14]: what is in some set, in each, and what is granted."""

import itertools
import unittest

import papers
import plain
from strikeweave.errors import NoName
from strikeweave.grantcheck import shows_granted
from strikeweave.grants import granted, in_each, in_some
from strikeweave.rounds import least
from strikeweave.treecheck import shows_greatest, shows_none
from strikeweave.trees import greatest_with, standing_with
from strikeweave.webs import Web

NO_NAMES = ("z", "ab", "", "A", "a ", None, 0, True, ["a"], ("a",))


class Case(unittest.TestCase):
    def check_own(self, web, deed):
        """The same is told again, whatever was done to what was told; no list is told twice."""
        first, again, more = deed(), deed(), deed()
        self.assertEqual(first, again)
        lists = plain.told_lists([first, again, more])
        self.assertEqual(len({id(one) for one in lists}), len(lists))
        plain.spoil(first)
        self.assertEqual(again, more)
        self.assertEqual(deed(), more)
        return more

    def webs(self):
        return itertools.chain(plain.all_small_webs(), plain.some_webs(81, 40, 8), plain.drawn_webs(82, 60, 4, 8))

    def great_webs(self):
        return plain.drawn_webs(83, 15, 11, 12) + [
            plain.ring_web(12), plain.ring_web(11), plain.row_web(12), plain.cliques([2] * 6), plain.cliques([3] * 4)]


class InSomeAndEach(Case):
    def check(self, names, strikes):
        web = Web(plain.shuffled(84, names), plain.shuffled(85, strikes))
        greatest = plain.all_greatest(names, strikes)
        for name in names:
            self.check_some(web, names, strikes, name, any(name in some for some in greatest))
            self.check_each(web, names, strikes, name, greatest)
        self.assertEqual((web.all_names(), web.all_strikes()), (sorted(names), sorted(strikes)))

    def check_some(self, web, names, strikes, name, there):
        word, thing = self.check_own(web, lambda: in_some(web, name))
        self.assertEqual(word, "told" if there else "none")
        if there:
            self.assertTrue(name in thing and plain.standing(strikes, thing) and thing == sorted(thing))
        else:
            self.assertTrue(papers.shows_none(names, strikes, [name], thing))
            self.assertIs(shows_none(web, [name], thing), True)
        self.assertEqual(in_some(web, name), standing_with(web, [name]))

    def check_each(self, web, names, strikes, name, greatest):
        told = self.check_own(web, lambda: in_each(web, name))
        self.assertIs(type(told), tuple)
        if all(name in some for some in greatest):
            self.assertEqual(len(told), 3)
            self.assertEqual(told[:2], ("each", greatest))
            self.assertTrue(papers.shows_greatest(names, strikes, told[1], told[2]))
            self.assertIs(shows_greatest(web, told[1], told[2]), True)
            self.assertEqual(told[1:], greatest_with(web))
        else:
            self.assertEqual((len(told), told[0]), (2, "not"))
            self.assertIn(told[1], greatest)
            self.assertNotIn(name, told[1])

    def test_by_hand(self):
        web = Web(["d", "c", "b", "a"], [("a", "b"), ("b", "a"), ("a", "c"), ("b", "c"), ("c", "d")])
        self.assertEqual(in_some(web, "d")[0], "told")
        self.assertEqual(in_some(web, "c")[0], "none")
        self.assertEqual(in_each(web, "a"), ("not", ["b", "d"]))
        self.assertEqual(in_each(web, "b"), ("not", ["a", "d"]))
        self.assertEqual(in_each(web, "d")[:2], ("each", [["a", "d"], ["b", "d"]]))

    def test_small_webs_and_others(self):
        for names, strikes in self.webs():
            self.check(names, strikes)

    def test_up_to_twelve_names(self):
        for names, strikes in self.great_webs()[:17]:
            self.check(names, strikes)

    def test_names_that_are_none_of_the_webs(self):
        for web in (Web([], []), Web(["a", "b"], [("a", "b"), ("b", "b")])):
            for name in NO_NAMES + (("a",) if not web.all_names() else ()):
                for deed in (in_some, in_each):
                    with self.subTest(name=name, deed=deed):
                        self.assertRaises(NoName, deed, web, name)

    def test_somewhat_beyond_the_bounds(self):
        names, strikes = plain.cliques([3] * 6)
        self.assertEqual(in_some(Web(names, strikes), "ab")[0], "told")


class Granted(Case):
    def check(self, names, strikes):
        web = Web(plain.shuffled(86, names), plain.shuffled(87, strikes))
        told = self.check_own(web, lambda: granted(web))
        self.assertIs(type(told), tuple)
        some, paper = told
        self.assertEqual(some, papers.granted_set(names, strikes))
        self.assertIs(type(some), list)
        self.assertTrue(papers.shows_granted(names, strikes, some, paper))
        self.assertIs(type(paper[0]), list)
        self.assertIs(type(paper[1]), list)
        self.assertIs(shows_granted(web, some, paper), True)
        self.assertLessEqual(set(least(web)), set(some))
        for one in plain.all_greatest(names, strikes):
            self.assertLessEqual(set(some), set(one))
        self.assertEqual((web.all_names(), web.all_strikes()), (sorted(names), sorted(strikes)))

    def test_by_hand(self):
        # Only c strikes d, and no standing set has c, which strikes itself.
        web = Web(["a", "b", "c", "d"], [("a", "b"), ("b", "a"), ("b", "c"), ("c", "c"), ("c", "d"), ("d", "c")])
        some, paper = granted(web)
        self.assertEqual(some, ["d"])
        self.assertEqual([name for name, tree in paper[0]], ["c"])
        self.assertEqual(sorted(name for name, why in paper[1]), ["a", "b", "c"])

    def test_more_than_the_least_set(self):
        # b strikes itself, so that no standing set strikes a, though no round gives a word.
        web = Web(["a", "b"], [("a", "b"), ("b", "a"), ("b", "b")])
        self.assertEqual(least(web), [])
        some, (trees, drops) = granted(web)
        self.assertEqual(some, ["a"])
        self.assertEqual(trees, [("b", ("clash", "b", "b"))])
        self.assertEqual([name for name, why in drops], ["b"])

    def test_less_than_what_all_greatest_sets_share(self):
        web = Web(["d", "c", "b", "a"], [("a", "b"), ("b", "a"), ("a", "c"), ("b", "c"), ("c", "d")])
        self.assertEqual(in_each(web, "d")[0], "each")
        some, (trees, drops) = granted(web)
        self.assertEqual((some, trees), ([], []))
        self.assertEqual(drops[-1], ("d", ("bare", "c")))

    def test_the_empty_web_and_names_without_strikes(self):
        self.assertEqual(granted(Web([], [])), ([], ([], [])))
        self.assertEqual(granted(Web(["b", "a"], [])), (["a", "b"], ([], [])))
        self.check([], [])

    def test_small_webs_and_others(self):
        for names, strikes in self.webs():
            self.check(names, strikes)

    def test_up_to_twelve_names(self):
        for names, strikes in self.great_webs():
            self.check(names, strikes)


if __name__ == "__main__":
    unittest.main()
