"""[1], [18] and [19]: strengths, strikes that count, what they hit, and the woven web."""

import itertools
import random
import unittest

import looms
import plain
from strikeweave.errors import NoName
from strikeweave.lists import whole_sets
from strikeweave.weaves import Weave
from strikeweave.weaving import backers, counting, hit_by, plain_web, strength, word_of, woven

PEOPLE = [("ann", 3), ("bob", 7), ("cy", 0), ("dee", 9)]
NO_NAMES = ("zoe", "bob", "", "A", "a\n", None, 0, True, ["a"], ("a",), b"a")


def told_web(web):
    return web.all_names(), web.all_strikes()


class Case(unittest.TestCase):
    def check_own(self, weave, deed):
        """The same is told again, whatever was done to what was told."""
        was = repr((weave.people, weave.sayings, weave.strikes, weave.backs))
        first, again = deed(), deed()
        self.assertEqual(first, again)
        self.assertIs(type(first), list)
        self.assertIsNot(first, again)
        plain.spoil(first)
        self.assertEqual(deed(), again)
        self.assertEqual(repr((weave.people, weave.sayings, weave.strikes, weave.backs)), was)
        return again


class Strength(Case):
    def test_of_sayings(self):
        weave = Weave(PEOPLE, [
            ("a", "claim", []), ("b", "fact", []), ("c", "claim", ["ann"]), ("d", "fact", ["ann"]),
            ("e", "claim", ["ann", "bob", "cy"]), ("f", "fact", ["bob", "ann"]), ("g", "claim", ["cy"]),
            ("h", "fact", ["cy"]), ("i", "claim", ["dee", "bob"]), ("j", "fact", ["cy", "dee"])], [], [])
        self.assertEqual([strength(weave, name) for name in "abcdefghij"], [0, 10, 3, 13, 7, 17, 0, 10, 9, 19])

    def test_of_strikes(self):
        weave = Weave(PEOPLE, [("a", "fact", ["bob"]), ("b", "claim", ["ann"])],
                      [("s", "a", "b"), ("t", "b", "s"), ("u", "b", "u")], [])
        self.assertEqual([strength(weave, name) for name in "abstu"], [17, 3, 17, 3, 3])

    def test_kinds_of_what_is_told(self):
        weave = Weave(PEOPLE, [("a", "claim", [])], [("s", "a", "a")], [])
        for name in "as":
            self.assertIs(type(strength(weave, name)), int)

    def test_names_that_are_none(self):
        weave = Weave(PEOPLE, [("a", "claim", ["bob"])], [("s", "a", "a")], [])
        for name in NO_NAMES:
            self.assertRaises(NoName, strength, weave, name)
            self.assertRaises(NoName, strength, Weave([("bob", 1)], [], [], []), name)

    def test_a_person_and_a_saying_of_one_name(self):
        weave = Weave([("a", 4), ("b", 6)], [("a", "claim", ["b"]), ("c", "claim", ["a"])], [("b", "a", "c")], [])
        self.assertEqual([strength(weave, name) for name in "abc"], [6, 6, 4])


class Counting(Case):
    def test_stronger_weaker_and_as_strong(self):
        sayings = [("a", "claim", ["ann"]), ("b", "claim", ["bob"]), ("c", "claim", ["ann"]), ("d", "fact", ["ann"])]
        weave = Weave(PEOPLE, sayings, [
            ("z", "b", "a"), ("y", "a", "b"), ("x", "a", "c"), ("w", "d", "b"), ("v", "b", "d"), ("u", "a", "a")], [])
        self.assertEqual(self.check_own(weave, lambda: counting(weave)), ["u", "w", "x", "z"])

    def test_strikes_at_strikes(self):
        sayings = [("a", "claim", ["ann"]), ("b", "claim", ["bob"])]
        weave = Weave(PEOPLE, sayings, [
            ("s", "a", "t"), ("t", "b", "a"), ("u", "b", "s"), ("v", "a", "s"), ("w", "a", "w")], [])
        self.assertEqual(counting(weave), ["t", "u", "v", "w"])

    def test_none(self):
        self.assertEqual(counting(Weave([], [], [], [])), [])
        self.assertEqual(counting(Weave([], [("a", "claim", []), ("b", "fact", [])], [("s", "a", "b")], [])), [])


class Backers(Case):
    SAYINGS = [(name, "claim", []) for name in "fedcba"]

    def test_rows_of_backs(self):
        weave = Weave([], self.SAYINGS, [], [("c", "b"), ("b", "a"), ("d", "a"), ("a", "e")])
        told = [self.check_own(weave, lambda: backers(weave, name)) for name in "abcdef"]
        self.assertEqual(told, [["b", "c", "d"], ["c"], [], [], ["a", "b", "c", "d"], []])

    def test_rings_of_backs(self):
        weave = Weave([], self.SAYINGS, [], [("a", "b"), ("b", "c"), ("c", "a"), ("d", "e"), ("e", "d"), ("f", "a")])
        self.assertEqual(backers(weave, "a"), ["b", "c", "f"])
        self.assertEqual(backers(weave, "b"), ["a", "c", "f"])
        self.assertEqual(backers(weave, "d"), ["e"])
        self.assertEqual(backers(weave, "f"), [])

    def test_names_that_are_none(self):
        weave = Weave(PEOPLE, [("a", "claim", ["bob"])], [("s", "a", "a")], [])
        for name in NO_NAMES + ("s",):
            self.assertRaises(NoName, backers, weave, name)


class HitBy(Case):
    SAYINGS = [(name, "claim", []) for name in "dcba"]

    def test_goals_and_backers(self):
        strikes = [("z", "a", "b"), ("y", "a", "z"), ("x", "d", "a"), ("w", "a", "w"), ("v", "a", "u"), ("u", "b", "b")]
        weave = Weave([], self.SAYINGS, strikes, [("d", "b"), ("a", "d"), ("c", "a")])
        told = [self.check_own(weave, lambda: hit_by(weave, name)) for name in "zyxwvu"]
        self.assertEqual(told, [["a", "b", "c", "d"], ["z"], ["a", "c"], ["w"], ["u"], ["a", "b", "c", "d"]])

    def test_of_strikes_that_do_not_count(self):
        sayings = [("a", "claim", []), ("b", "fact", []), ("c", "claim", [])]
        weave = Weave([], sayings, [("s", "a", "b"), ("t", "c", "s")], [("c", "b")])
        self.assertEqual(counting(weave), ["t"])
        self.assertEqual(hit_by(weave, "s"), ["b", "c"])
        self.assertEqual(hit_by(weave, "t"), ["s"])

    def test_names_that_are_none(self):
        weave = Weave(PEOPLE, [("a", "claim", ["bob"])], [("s", "a", "a")], [])
        for name in NO_NAMES + ("a",):
            self.assertRaises(NoName, hit_by, weave, name)


class Woven(Case):
    def check(self, parts):
        weave = Weave(*parts)
        names, strikes = looms.woven(parts)
        self.assertEqual(told_web(woven(weave)), (names, strikes))
        self.assertEqual(told_web(woven(weave)), (names, strikes), "the same is told again")
        self.assertEqual(told_web(plain_web(weave)), looms.plain_web(parts))
        self.assertEqual(self.check_own(weave, lambda: counting(weave)), looms.counting(parts))
        words = {row[0]: row[1] for row in plain.round_rows(names, strikes)}
        for name, kind, speakers in parts[1]:
            self.assertEqual(strength(weave, name), looms.strength(parts, name))
            self.assertEqual(self.check_own(weave, lambda: backers(weave, name)), looms.backers(parts, name))
            self.assertEqual(word_of(weave, name), words[name])
        for name, one, goal in parts[2]:
            self.assertEqual(strength(weave, name), looms.strength(parts, one))
            self.assertEqual(self.check_own(weave, lambda: hit_by(weave, name)), looms.hit_by(parts, name))
            self.assertEqual(word_of(weave, name), words.get(name, "none"))
        return names, strikes

    def test_by_hand(self):
        # s hits b and its backer c, so t, whose one is c, too; u does not count.
        sayings = [("a", "claim", []), ("b", "claim", []), ("c", "claim", []), ("d", "fact", [])]
        weave = Weave([], sayings, [("s", "a", "b"), ("t", "c", "a"), ("u", "a", "d"), ("v", "b", "u")], [("c", "b")])
        names, strikes = told_web(woven(weave))
        self.assertEqual(names, ["a", "b", "c", "d", "s", "t", "v"])
        self.assertEqual(strikes, [
            ("s", "b"), ("s", "c"), ("s", "t"), ("s", "v"), ("t", "a"), ("t", "s")])
        self.assertEqual([word_of(weave, name) for name in "abcdstuv"],
                         ["open", "open", "open", "in", "open", "open", "none", "open"])

    def test_a_strike_is_out_where_its_one_is_hit(self):
        sayings = [("a", "claim", []), ("b", "claim", []), ("c", "claim", [])]
        weave = Weave([], sayings, [("s", "a", "b"), ("t", "b", "c")], [])
        self.assertEqual(told_web(woven(weave))[1], [("s", "b"), ("s", "t"), ("t", "c")])
        self.assertEqual([word_of(weave, name) for name in "abcst"], ["in", "out", "in", "in", "out"])

    def test_a_strike_is_struck_itself(self):
        sayings = [("a", "claim", []), ("b", "claim", []), ("c", "claim", [])]
        weave = Weave([], sayings, [("s", "a", "b"), ("t", "c", "s")], [])
        self.assertEqual(told_web(woven(weave))[1], [("s", "b"), ("t", "s")])
        self.assertEqual([word_of(weave, name) for name in "abcst"], ["in", "in", "in", "out", "in"])

    def test_strikes_at_strikes_in_rings_and_at_their_own(self):
        sayings = [("a", "claim", []), ("b", "claim", [])]
        weave = Weave([], sayings, [("s", "a", "t"), ("t", "b", "s"), ("u", "a", "u"), ("v", "a", "a")], [])
        self.assertEqual(told_web(woven(weave))[1], [
            ("s", "t"), ("t", "s"), ("u", "u"), ("v", "a"), ("v", "s"), ("v", "u"), ("v", "v")])
        self.check(([], sayings, weave.strikes, []))

    def test_a_strike_at_what_its_own_one_backs_strikes_itself(self):
        sayings = [("a", "claim", []), ("b", "claim", [])]
        weave = Weave([], sayings, [("s", "a", "b")], [("a", "b")])
        self.assertEqual(told_web(woven(weave))[1], [("s", "a"), ("s", "b"), ("s", "s")])

    def test_several_strikes_from_one_to_the_same_goal(self):
        sayings = [("a", "claim", []), ("b", "claim", [])]
        weave = Weave([], sayings, [("s", "a", "b"), ("t", "a", "b"), ("u", "b", "s")], [])
        self.assertEqual(told_web(plain_web(weave)), (["a", "b"], [("a", "b")]))
        self.assertEqual(told_web(woven(weave))[1], [
            ("s", "b"), ("s", "u"), ("t", "b"), ("t", "u"), ("u", "s")])

    def test_the_plain_web_has_weak_strikes_too_and_none_at_strikes(self):
        sayings = [("a", "claim", []), ("b", "fact", [])]
        weave = Weave([], sayings, [("s", "a", "b"), ("t", "b", "s"), ("u", "b", "b")], [("a", "b")])
        self.assertEqual(told_web(plain_web(weave)), (["a", "b"], [("a", "b"), ("b", "b")]))

    def test_the_empty_weave(self):
        self.check(([], [], [], []))
        self.check((PEOPLE, [], [], []))
        self.check((PEOPLE, [("a", "fact", ["ann"])], [], []))

    def test_drawn_ones(self):
        for parts in looms.drawn_weaves(141, 150) + looms.drawn_weaves(142, 250, (3, 4, 5, 3)):
            self.check(parts)

    def test_at_the_bounds(self):
        said = [(name, "claim", []) for name in "abcdefghijkl"]
        backs = [("abcdefghijkl"[k], "bcdefghijkla"[k]) for k in range(12)]
        strikes = [("s" + name, name, "a") for name in "abcdefghijkl"]
        names, pairs = self.check(([], said, strikes, backs))
        self.assertEqual((len(names), len(pairs)), (24, 288))

    def test_names_that_are_none(self):
        weave = Weave(PEOPLE, [("a", "claim", ["bob"]), ("b", "fact", [])], [("s", "a", "a"), ("t", "a", "b")], [])
        for name in NO_NAMES:
            self.assertRaises(NoName, word_of, weave, name)
        self.assertEqual(word_of(weave, "t"), "none")

    def test_the_fields_are_read_at_the_asking_alone(self):
        parts = ([], [("a", "claim", []), ("b", "claim", [])], [("s", "a", "b")], [])
        web = woven(Weave(*parts))
        told = told_web(web)
        parts[2].clear()
        self.assertEqual(told_web(web), told)


class WholeSets(Case):
    def plain_parts(self, source, many):
        """Without backs and without strikes at strikes, all of which count."""
        said = list("abcdef"[:many])
        rank = source.randint(0, 9)
        people = [("p", rank), ("q", source.randint(0, rank))]
        sayings = [(name, "claim", source.choice((["p"], ["p", "q"]))) for name in said]
        strikes = [("s" + "abcdefghijkl"[at], source.choice(said), source.choice(said))
                   for at in range(source.randint(0, 12 - many))]
        return people, sayings, strikes, []

    def test_those_of_the_woven_web_are_those_of_the_plain_web(self):
        source = random.Random(143)
        for step in range(150):
            parts = self.plain_parts(source, source.randint(1, 6))
            weave = Weave(*parts)
            self.assertEqual(len(counting(weave)), len(parts[2]))
            said = [row[0] for row in parts[1]]
            left = sorted([name for name in some if name in said] for some in whole_sets(woven(weave)))
            self.assertEqual(left, whole_sets(plain_web(weave)))

    def test_with_all_strikes_of_small_webs(self):
        for names, strikes in itertools.islice(plain.all_small_webs(), 0, None, 3):
            rows = [("s" + one + other, one, other) for one, other in strikes]
            weave = Weave([], [(name, "fact", []) for name in names], rows, [])
            left = sorted([name for name in some if name in names] for some in whole_sets(woven(weave)))
            self.assertEqual(left, whole_sets(plain_web(weave)))


if __name__ == "__main__":
    unittest.main()
