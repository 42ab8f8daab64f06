"""[1] to [4]: webs, what they refuse, and where rows of strikes lead."""

import itertools
import unittest

import plain
from strikeweave.errors import BadName, BadStrike, NoName
from strikeweave.webs import Web, ahead_of, behind, part_of, parts, rings

NO_NAMES = [
    None, 0, 1, True, False, b"a", [], ["a"], ("a",), {}, {"a": 1},
    "", "abcdefghi", "A", "aB", "a1", "7", "\u00e4", "a\u00df", "\u0430", "{", "`", "a b", " a", "a ", " ",
    "a\n", "\n", "a\t", "a_", "a-b", "a\x00",
]
NO_STRIKES = [
    None, 5, True, "ab", "a", "", [], ["a", "b"], {}, {"a": "b"}, b"ab",
    (), ("a",), ("a", "b", "a"), ("a", "b", "c"), ("a", "z"), ("z", "a"), ("y", "z"), ("a", ""), ("", "a"),
    ("a", None), (None, "a"), (1, "a"), ("a", 1), (["a"], "b"), ("a", ["b"]), (("a",), "b"), ("a", ("b",)),
    ({}, "a"), ("a", {}), ("A", "b"), ("a", "b\n"), (("a", "b"),), [("a", "b")],
]


def told_of(web):
    """All that a web itself tells."""
    names = web.all_names()
    return (names, web.all_strikes(), [web.strikers(name) for name in names], [web.struck(name) for name in names])


def told_plainly(names, strikes):
    rising = sorted(names)
    strikers = [sorted(one for one, other in strikes if other == name) for name in rising]
    struck = [sorted(other for one, other in strikes if one == name) for name in rising]
    return (rising, sorted(strikes), strikers, struck)


class Told(unittest.TestCase):
    def check(self, names, strikes):
        for form in (list, tuple):
            web = Web(form(names), form(strikes))
            self.assertEqual(told_of(web), told_plainly(names, strikes))
            self.assertEqual(told_of(web), told_plainly(names, strikes), "the same is told again")

    def test_unsorted_names_and_strikes(self):
        names, strikes = ["c", "a", "bb", "b"], [("c", "a"), ("a", "c"), ("bb", "bb"), ("a", "b")]
        web = Web(names, strikes)
        self.assertEqual(web.all_names(), ["a", "b", "bb", "c"])
        self.assertEqual(web.all_strikes(), [("a", "b"), ("a", "c"), ("bb", "bb"), ("c", "a")])
        self.assertEqual([web.strikers(name) for name in names], [["a"], ["c"], ["bb"], ["a"]])
        self.assertEqual([web.struck(name) for name in names], [["a"], ["b", "c"], ["bb"], []])
        self.check(names, strikes)

    def test_a_strike_has_its_way(self):
        web = Web(["a", "b"], [("b", "a")])
        self.assertEqual((web.strikers("a"), web.strikers("b")), (["b"], []))
        self.assertEqual((web.struck("a"), web.struck("b")), ([], ["a"]))

    def test_none_at_all(self):
        self.check([], [])
        self.check(["b", "a"], [])
        self.check(["a"], [("a", "a")])

    def test_small_webs_and_others(self):
        for names, strikes in itertools.chain(plain.all_small_webs(), plain.some_webs(1, 60, 18)):
            self.check(plain.shuffled(2, names), plain.shuffled(3, strikes))

    def test_up_to_the_bounds(self):
        names, strikes = plain.great_web()
        self.assertNotEqual(names, sorted(names))
        self.check(names, strikes)

    def test_somewhat_beyond_the_bounds_nothing_is_refused(self):
        names, strikes = plain.row_web(35)
        strikes += [(one, other) for one in names[:5] for other in names[::-1] if (one, other) not in strikes]
        self.assertGreater(len(strikes), 150)
        self.check(names, strikes)

    def test_longest_and_outermost_names(self):
        names = ["zzzzzzzz", "z", "a", "aaaaaaaa", "abcdefgh", "stuvwxyz", "ijklmnop", "qr"]
        self.check(names, [(one, "a") for one in names])

    def test_both_ways_are_two_strikes(self):
        self.check(["a", "b"], [("b", "a"), ("a", "b")])

    def test_what_is_told_are_lists_of_tuples(self):
        web = Web(("b", "a"), (("b", "a"), ("a", "a")))
        for told in (web.all_names(), web.all_strikes(), web.strikers("a"), web.struck("b")):
            self.assertIs(type(told), list)
        for pair in web.all_strikes():
            self.assertIs(type(pair), tuple)


class Own(unittest.TestCase):
    def test_what_is_handed_in_stays_and_is_not_kept(self):
        names, strikes = ["c", "b", "a"], [("c", "a"), ("a", "b"), ("c", "b")]
        web = Web(names, strikes)
        self.assertEqual(names, ["c", "b", "a"])
        self.assertEqual(strikes, [("c", "a"), ("a", "b"), ("c", "b")])
        ahead = told_of(web)
        names.append("d")
        del names[0]
        strikes.clear()
        self.assertEqual(told_of(web), ahead)

    def test_what_is_told_may_be_changed(self):
        web = Web(["b", "a"], [("b", "a"), ("a", "a"), ("a", "b")])
        ahead = told_of(web)
        for told in (web.all_names(), web.all_strikes(), web.strikers("a"), web.struck("a"), web.struck("b")):
            told.reverse()
            told.append("x")
        self.assertEqual(told_of(web), ahead)

    def test_no_list_is_told_twice(self):
        web = Web(["b", "a"], [("b", "a"), ("a", "b")])
        told = [deed() for deed in (web.all_names, web.all_strikes) for again in range(2)]
        told += [deed(name) for deed in (web.strikers, web.struck) for name in "ab" for again in range(2)]
        self.assertEqual(len({id(one) for one in told}), len(told))

    def test_what_was_told_may_be_handed_in_again(self):
        web = Web(["b", "a"], [("b", "a"), ("a", "a")])
        names, strikes = web.all_names(), web.all_strikes()
        again = Web(names, strikes)
        names.clear()
        strikes.clear()
        self.assertEqual(told_of(again), told_of(web))


class Refused(unittest.TestCase):
    def bad_name(self, names, place, strikes=()):
        for form in (list, tuple):
            with self.assertRaises(BadName) as caught:
                Web(form(names), form(strikes))
            self.assertEqual(caught.exception.place, place)

    def bad_strike(self, names, strikes, place):
        for form in (list, tuple):
            with self.assertRaises(BadStrike) as caught:
                Web(form(names), form(strikes))
            self.assertEqual(caught.exception.place, place)

    def test_names_that_are_none(self):
        for wrong in NO_NAMES:
            for place in range(4):
                with self.subTest(wrong=wrong, place=place):
                    names = ["c", "a", "b"]
                    names.insert(place, wrong)
                    self.bad_name(names, place)

    def test_a_name_that_was_there_ahead(self):
        self.bad_name(["a", "a"], 1)
        self.bad_name(["b", "a", "c", "a"], 3)
        self.bad_name(["b", "a", "c", "b", "a"], 3)
        self.bad_name(["b", "c", "c", "c", "b"], 2)

    def test_the_first_of_several_names(self):
        self.bad_name(["a", "b", "", "a", None], 2)
        self.bad_name(["a", "a", "", None], 1)
        self.bad_name([None, "a", "a", None], 0)
        self.bad_name(["A", "A"], 0)

    def test_a_wrong_name_far_behind(self):
        names, strikes = plain.great_web()
        self.bad_name(names[:29] + [names[0]], 29, strikes)
        self.bad_name(names[:29] + ["a" * 9], 29, strikes)

    def test_strikes_that_are_none(self):
        for wrong in NO_STRIKES:
            for place in range(4):
                with self.subTest(wrong=wrong, place=place):
                    strikes = [("b", "a"), ("a", "a"), ("a", "b")]
                    strikes.insert(place, wrong)
                    self.bad_strike(["b", "a"], strikes, place)

    def test_a_strike_that_was_there_ahead(self):
        self.bad_strike(["a"], [("a", "a"), ("a", "a")], 1)
        self.bad_strike(["a", "b"], [("a", "b"), ("b", "a"), ("b", "b"), ("b", "a"), ("a", "b")], 3)

    def test_the_first_of_several_strikes(self):
        self.bad_strike(["a", "b"], [("a", "b"), None, ("a", "b"), "ab"], 1)
        self.bad_strike(["a", "b"], [("a", "b"), ("a", "b"), None], 1)
        self.bad_strike(["a", "b"], [["a", "b"], ("a", "b"), ("a", "b")], 0)
        self.bad_strike([], [("a", "b")], 0)

    def test_a_wrong_strike_far_behind(self):
        names, strikes = plain.great_web()
        self.bad_strike(names, strikes[:149] + [strikes[17]], 149)
        self.bad_strike(names, strikes[:149] + [("a", "ay")], 149)

    def test_bad_name_goes_ahead_of_bad_strike(self):
        self.bad_name(["a", "b", "a"], 2, [None])
        self.bad_name(["a", ""], 1, [("a", "z"), ("a", "z")])
        self.bad_name(["a", "A"], 1, [("a", "A")])

    def test_names_that_are_none_of_the_webs(self):
        web = Web(["b", "a"], [("b", "a"), ("a", "a")])
        ahead = told_of(web)
        for name in ("c", "ab", "", "A", "a ", "a\n", None, 0, True, ["a"], ("a",), {}):
            for deed in (web.strikers, web.struck):
                with self.subTest(name=name, deed=deed):
                    self.assertRaises(NoName, deed, name)
        self.assertEqual(told_of(web), ahead)

    def test_the_empty_web_has_no_name(self):
        self.assertRaises(NoName, Web([], []).strikers, "a")
        self.assertRaises(NoName, Web([], []).struck, "a")

    def test_a_refusal_leaves_what_was_handed_in(self):
        names, strikes = ["b", "a"], [("b", "a"), ("a", "c")]
        self.assertRaises(BadStrike, Web, names, strikes)
        self.assertEqual((names, strikes), (["b", "a"], [("b", "a"), ("a", "c")]))


class Parted(unittest.TestCase):
    """part_of"""

    def check(self, names, strikes, some):
        within = [pair for pair in strikes if pair[0] in some and pair[1] in some]
        for form in (list, tuple):
            part = part_of(Web(names, strikes), form(some))
            self.assertIsInstance(part, Web)
            self.assertEqual(told_of(part), told_plainly(some, within))

    def test_by_hand(self):
        web = Web(["a", "b", "c"], [("a", "b"), ("b", "c"), ("c", "c"), ("c", "a")])
        part = part_of(web, ["c", "a"])
        self.assertEqual(part.all_names(), ["a", "c"])
        self.assertEqual(part.all_strikes(), [("c", "a"), ("c", "c")])
        self.assertEqual((part.strikers("a"), part.struck("c")), (["c"], ["a", "c"]))
        self.assertRaises(NoName, part.strikers, "b")

    def test_empty_ones(self):
        self.check([], [], [])
        self.check(["a"], [("a", "a")], [])

    def test_all_sets_of_small_webs(self):
        for names, strikes in plain.all_small_webs():
            for some in plain.subsets(names):
                self.check(names, strikes, list(reversed(some)))

    def test_greater_ones(self):
        names, strikes = plain.great_web()
        self.check(names, strikes, names)
        self.check(names, strikes, names[3:22])

    def test_a_part_of_a_part(self):
        names, strikes = plain.great_web()
        web = Web(names, strikes)
        self.assertEqual(told_of(part_of(part_of(web, names[2:20]), names[15:4:-1])),
                         told_of(part_of(web, names[5:16])))

    def test_it_is_its_own(self):
        web = Web(["a", "b", "c"], [("a", "b"), ("b", "c")])
        some, ahead = ["c", "b"], told_of(web)
        part = part_of(web, some)
        self.assertEqual(some, ["c", "b"])
        was = told_of(part)
        some.append("a")
        part.all_names().append("x")
        self.assertEqual(told_of(part), was)
        self.assertEqual(told_of(web), ahead)


class Rows(unittest.TestCase):
    """behind and ahead_of"""

    def check(self, names, strikes, some):
        found = plain.leads(names, strikes)
        after = sorted(n for n in names if n in some or any((one, n) in found for one in some))
        before = sorted(n for n in names if n in some or any((n, one) in found for one in some))
        web = Web(names, strikes)
        for handed in (list(some), tuple(some), list(reversed(some))):
            kept = list(handed)
            self.assertEqual(behind(web, handed), after)
            self.assertEqual(ahead_of(web, handed), before)
            self.assertEqual(list(handed), kept)
        self.assertEqual(told_of(web), told_plainly(names, strikes))

    def test_by_hand(self):
        web = Web(["e", "d", "c", "b", "a"], [("b", "a"), ("a", "c"), ("d", "c"), ("e", "e")])
        self.assertEqual(behind(web, ["b"]), ["a", "b", "c"])
        self.assertEqual(behind(web, ["c"]), ["c"])
        self.assertEqual(behind(web, ("e", "d")), ["c", "d", "e"])
        self.assertEqual(ahead_of(web, ["c"]), ["a", "b", "c", "d"])
        self.assertEqual(ahead_of(web, ["b"]), ["b"])
        self.assertEqual(ahead_of(web, ("e", "a")), ["a", "b", "e"])

    def test_empty_ones(self):
        self.check([], [], [])
        self.check(["a", "b"], [("a", "b")], [])

    def test_all_sets_of_small_webs(self):
        for names, strikes in plain.all_small_webs():
            for some in plain.subsets(names):
                self.check(names, strikes, some)

    def test_other_webs(self):
        for names, strikes in plain.some_webs(4, 60, 10):
            for size in range(4):
                self.check(names, strikes, names[:size])

    def test_rows_through_many_names(self):
        names, strikes = plain.row_web(30)
        web = Web(plain.shuffled(5, names), plain.shuffled(6, strikes))
        for place, name in enumerate(names):
            self.assertEqual(behind(web, [name]), names[place:])
            self.assertEqual(ahead_of(web, [name]), names[:place + 1])

    def test_what_is_told_may_be_changed(self):
        web = Web(["a", "b"], [("a", "b")])
        for deed, name in ((behind, "a"), (ahead_of, "b"), (behind, "b"), (ahead_of, "a")):
            some = [name]
            first = deed(web, some)
            was = list(first)
            first.append("x")
            self.assertEqual(some, [name])
            self.assertEqual(deed(web, some), was)


class Groups(unittest.TestCase):
    """parts and rings"""

    def check(self, names, strikes):
        both = strikes + [(other, one) for one, other in strikes]
        joined, found = plain.leads(names, both), plain.leads(names, strikes)
        in_parts = {name: sorted(n for n in names if n == name or (name, n) in joined) for name in names}
        in_rings = {name: sorted(n for n in names if (name, n) in found and (n, name) in found) for name in names}
        web = Web(names, strikes)
        for again in range(2):
            self.assertEqual(parts(web), sorted(list(one) for one in set(map(tuple, in_parts.values()))))
            self.assertEqual(rings(web), sorted(list(one) for one in set(map(tuple, in_rings.values())) if one))
        self.assertEqual(told_of(web), told_plainly(names, strikes))

    def test_by_hand(self):
        web = Web(
            ["g", "f", "e", "d", "c", "b", "a", "h"],
            [("g", "a"), ("a", "d"), ("d", "g"), ("d", "e"), ("f", "f"), ("c", "b"), ("b", "c"), ("e", "h")])
        self.assertEqual(parts(web), [["a", "d", "e", "g", "h"], ["b", "c"], ["f"]])
        self.assertEqual(rings(web), [["a", "d", "g"], ["b", "c"], ["f"]])

    def test_the_empty_web(self):
        self.assertEqual(parts(Web([], [])), [])
        self.assertEqual(rings(Web([], [])), [])

    def test_names_without_strikes(self):
        web = Web(["b", "c", "a"], [])
        self.assertEqual(parts(web), [["a"], ["b"], ["c"]])
        self.assertEqual(rings(web), [])

    def test_one_name_alone_is_a_ring_only_by_its_loop(self):
        web = Web(["b", "c", "a"], [("b", "b"), ("a", "b"), ("b", "c")])
        self.assertEqual(parts(web), [["a", "b", "c"]])
        self.assertEqual(rings(web), [["b"]])

    def test_rings_that_share_a_name_are_one(self):
        web = Web(["a", "b", "c"], [("a", "b"), ("b", "a"), ("b", "c"), ("c", "b")])
        self.assertEqual(rings(web), [["a", "b", "c"]])

    def test_parts_joined_against_the_strikes_way(self):
        web = Web(["a", "b", "c", "d"], [("a", "c"), ("b", "c"), ("b", "d")])
        self.assertEqual(parts(web), [["a", "b", "c", "d"]])
        self.assertEqual(rings(web), [])

    def test_small_webs_and_others(self):
        for names, strikes in itertools.chain(plain.all_small_webs(), plain.some_webs(7, 150, 12)):
            self.check(names, strikes)

    def test_up_to_the_bounds(self):
        self.check(*plain.great_web())
        names, strikes = plain.row_web(30)
        self.check(plain.shuffled(8, names), strikes)
        self.check(plain.shuffled(9, names), strikes + [(names[29], names[0])])
        self.check(plain.shuffled(10, names), strikes[:11] + strikes[12:] + [(names[11], names[3])])

    def test_no_list_is_told_twice(self):
        web = Web(["a", "b", "c", "d"], [("a", "b"), ("b", "a"), ("c", "c"), ("d", "d")])
        for deed in (parts, rings):
            first, second = deed(web), deed(web)
            told = [first, second] + first + second
            self.assertEqual(len({id(one) for one in told}), len(told))
            was = [list(one) for one in second]
            first[0].append("x")
            first.pop()
            self.assertEqual(second, was)
            self.assertEqual(deed(web), was)


if __name__ == "__main__":
    unittest.main()
