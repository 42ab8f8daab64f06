"""[1], [2] and [20]: changes of a web, and what they change."""

import random
import unittest

import plain
from strikeweave.errors import BadName, BadStrike, NoName, NoStrike
from strikeweave.keeper import Keeper
from strikeweave.sets import is_telling
from strikeweave.webs import Web, behind

NO_NAMES = (None, 0, True, b"a", [], ["a"], ("a",), {}, "", "abcdefghi", "A", "a1", "a\n", "\n", " a", "\u00e4")
POOL = [first + second for first in "abcde" for second in ("", "x", "yy", "zzz", "vvvv", "wwwwwww")]


def words_of(names, strikes):
    return sorted((row[0], row[1]) for row in plain.round_rows(names, strikes))


def rows_between(old, new):
    """What a change tells, by the words ahead of it and behind it."""
    old = dict(old)
    return [(name, old.get(name), word) for name, word in new if old.get(name) != word]


class Plain:
    """A plain web beside a keeper: all is told anew, and the changes that are still done are kept whole."""

    def __init__(self, names, strikes):
        self.names, self.strikes, self.past = list(names), list(strikes), []

    def state(self):
        return (sorted(self.names), sorted(self.strikes), words_of(self.names, self.strikes))

    def refusal(self, deed, things):
        """The error due, and its place; None where the change can be done."""
        if deed == "put_name":
            return (BadName, 0) if things[0] in self.names else None
        if any(name not in self.names for name in things):
            return (NoName, None)
        if deed == "put_strike" and things in self.strikes:
            return (BadStrike, 0)
        if deed == "take_strike" and things not in self.strikes:
            return (NoStrike, None)
        return None

    def do(self, deed, things):
        """Does a change; the names from which on words may be otherwise."""
        self.past.append((list(self.names), list(self.strikes)))
        if deed == "put_name":
            self.names.append(things[0])
            return [things[0]]
        if deed == "take_name":
            struck = sorted(other for one, other in self.strikes if one == things[0] and other != things[0])
            self.names.remove(things[0])
            self.strikes = [pair for pair in self.strikes if things[0] not in pair]
            return struck
        if deed == "put_strike":
            self.strikes.append(things)
        else:
            self.strikes.remove(things)
        return [things[1]]

    def undo(self):
        self.names, self.strikes = self.past.pop()


class Case(unittest.TestCase):
    def check_state(self, keeper, beside):
        names, strikes, words = beside.state()
        now = keeper.web_now()
        self.assertEqual((now.all_names(), now.all_strikes()), (names, strikes))
        self.assertEqual(keeper.words(), words)
        self.assertTrue(all(type(pair) is tuple for pair in keeper.words()))
        self.assertIs(is_telling(now, keeper.words()), True)

    def check_told(self, told, old, new):
        self.assertIs(type(told), list)
        self.assertTrue(all(type(row) is tuple for row in told))
        self.assertEqual(told, rows_between(old, new))

    def check_refused(self, keeper, beside, deed, things, error, place):
        looked = keeper.looked()
        with self.assertRaises(error) as caught:
            getattr(keeper, deed)(*things)
        self.assertIs(type(caught.exception), error)
        if place is not None:
            self.assertEqual(caught.exception.place, place)
        self.check_state(keeper, beside)
        self.assertEqual(keeper.looked(), looked)

    def check_done(self, keeper, beside, deed, things):
        old = beside.state()[2]
        roots = beside.do(deed, things)
        told = getattr(keeper, deed)(*things)
        names, strikes, words = beside.state()
        self.check_told(told, old, words)
        self.check_state(keeper, beside)
        looked = keeper.looked()
        self.assertEqual(looked, sorted(set(looked)))
        self.assertLessEqual({name for name, before, now in told}, set(looked))
        self.assertLessEqual(set(looked), set(behind(Web(names, strikes), roots)))
        plain.spoil(told)
        plain.spoil(keeper.looked())
        plain.spoil(keeper.words())
        self.check_state(keeper, beside)
        self.assertEqual(keeper.looked(), looked)

    def check_undone(self, keeper, beside):
        old = beside.state()[2]
        if not beside.past:
            looked = keeper.looked()
            self.assertIsNone(keeper.undo())
            self.assertEqual(keeper.looked(), looked)
        else:
            beside.undo()
            told = keeper.undo()
            self.check_told(told, old, beside.state()[2])
            plain.spoil(told)
            self.assertIs(type(keeper.looked()), list)
        self.check_state(keeper, beside)

    def step(self, keeper, beside, deed, things):
        due = beside.refusal(deed, things)
        if due is None:
            self.check_done(keeper, beside, deed, things)
        else:
            self.check_refused(keeper, beside, deed, things, *due)
        return due


class ByHand(Case):
    def test_a_chain(self):
        keeper = Keeper(Web(["a", "b", "c", "d"], [("a", "b"), ("b", "c")]))
        self.assertEqual(keeper.words(), [("a", "in"), ("b", "out"), ("c", "in"), ("d", "in")])
        self.assertEqual(keeper.looked(), [])
        self.assertEqual(keeper.put_strike("d", "a"), [("a", "in", "out"), ("b", "out", "in"), ("c", "in", "out")])
        self.assertEqual(keeper.looked(), ["a", "b", "c"])
        self.assertEqual(keeper.take_name("b"), [("c", "out", "in")])
        self.assertEqual(keeper.words(), [("a", "out"), ("c", "in"), ("d", "in")])
        self.assertEqual(keeper.put_name("b"), [("b", None, "in")])
        self.assertEqual(keeper.looked(), ["b"])
        self.assertEqual(keeper.web_now().all_strikes(), [("d", "a")])
        self.assertEqual(keeper.undo(), [])
        self.assertEqual(keeper.undo(), [("b", None, "in"), ("c", "in", "out")])
        self.assertEqual(keeper.web_now().all_strikes(), [("a", "b"), ("b", "c"), ("d", "a")])
        self.assertEqual(keeper.undo(), [("a", "out", "in"), ("b", "in", "out"), ("c", "out", "in")])
        self.assertIsNone(keeper.undo())
        self.assertIsNone(keeper.undo())
        self.assertEqual(keeper.words(), [("a", "in"), ("b", "out"), ("c", "in"), ("d", "in")])

    def test_a_ring_that_is_broken(self):
        keeper = Keeper(Web(["a", "b", "c"], [("a", "b"), ("b", "c"), ("c", "a")]))
        self.assertEqual(keeper.take_strike("c", "a"), [
            ("a", "open", "in"), ("b", "open", "out"), ("c", "open", "in")])
        self.assertEqual(keeper.put_strike("c", "a"), [
            ("a", "in", "open"), ("b", "out", "open"), ("c", "in", "open")])
        self.assertEqual(keeper.put_strike("c", "c"), [])
        self.assertEqual(keeper.take_name("c"), [("a", "open", "in"), ("b", "open", "out")])

    def test_from_none(self):
        keeper = Keeper(Web([], []))
        self.assertEqual((keeper.words(), keeper.looked(), keeper.undo()), ([], [], None))
        self.assertEqual(keeper.put_name("a"), [("a", None, "in")])
        self.assertEqual(keeper.put_strike("a", "a"), [("a", "in", "open")])
        self.assertEqual(keeper.take_name("a"), [])
        self.assertEqual((keeper.words(), keeper.looked()), ([], []))
        self.assertEqual(keeper.undo(), [("a", None, "open")])
        self.assertEqual(keeper.web_now().all_strikes(), [("a", "a")])

    def test_nothing_is_otherwise(self):
        keeper = Keeper(Web(["a", "b", "c"], [("a", "b")]))
        self.assertEqual(keeper.put_strike("c", "b"), [])
        self.assertEqual(keeper.put_strike("b", "b"), [])
        self.assertEqual(keeper.undo(), [])
        self.assertEqual(keeper.undo(), [])
        self.assertIsNone(keeper.undo())

    def test_only_what_is_behind_is_looked_at(self):
        names, strikes = plain.row_web(10)
        keeper = Keeper(Web(names, strikes))
        keeper.take_strike(names[6], names[7])
        self.assertLessEqual(set(keeper.looked()), set(names[7:]))
        keeper.take_name(names[3])
        self.assertLessEqual(set(keeper.looked()), set(names[4:7]))
        keeper.put_strike(names[0], names[9])
        self.assertLessEqual(set(keeper.looked()), {names[9]})


class Refused(Case):
    def both(self):
        names, strikes = ["a", "b", "c"], [("a", "b"), ("b", "b")]
        keeper, beside = Keeper(Web(names, strikes)), Plain(names, strikes)
        self.check_done(keeper, beside, "put_strike", ("b", "c"))
        return keeper, beside

    def test_put_name(self):
        keeper, beside = self.both()
        for name in NO_NAMES + ("a", "b", "c"):
            self.check_refused(keeper, beside, "put_name", (name,), BadName, 0)
        self.check_undone(keeper, beside)
        self.check_undone(keeper, beside)

    def test_take_name(self):
        keeper, beside = self.both()
        for name in NO_NAMES + ("d", "ab"):
            self.check_refused(keeper, beside, "take_name", (name,), NoName, None)
        self.check_undone(keeper, beside)

    def test_put_strike(self):
        keeper, beside = self.both()
        for name in NO_NAMES + ("d",):
            for pair in ((name, "a"), ("a", name), (name, name)):
                self.check_refused(keeper, beside, "put_strike", pair, NoName, None)
        for pair in (("a", "b"), ("b", "b"), ("b", "c")):
            self.check_refused(keeper, beside, "put_strike", pair, BadStrike, 0)
        self.check_undone(keeper, beside)

    def test_take_strike(self):
        keeper, beside = self.both()
        for name in NO_NAMES + ("d",):
            for pair in ((name, "a"), ("a", name), (name, name)):
                self.check_refused(keeper, beside, "take_strike", pair, NoName, None)
        for pair in (("b", "a"), ("a", "a"), ("c", "b"), ("a", "c")):
            self.check_refused(keeper, beside, "take_strike", pair, NoStrike, None)
        self.check_undone(keeper, beside)

    def test_a_strike_of_a_name_that_was_taken(self):
        keeper, beside = self.both()
        self.check_done(keeper, beside, "take_name", ("b",))
        for deed in ("put_strike", "take_strike"):
            for pair in (("a", "b"), ("b", "c"), ("b", "b")):
                self.check_refused(keeper, beside, deed, pair, NoName, None)
        self.check_done(keeper, beside, "put_name", ("b",))
        self.check_refused(keeper, beside, "take_strike", ("a", "b"), NoStrike, None)
        self.check_done(keeper, beside, "put_strike", ("a", "b"))
        for step in range(5):
            self.check_undone(keeper, beside)


class Own(Case):
    def test_keepers_of_one_web_side_by_side(self):
        names, strikes = ["a", "b", "c"], [("a", "b"), ("b", "c")]
        web = Web(names, strikes)
        one, other = Keeper(web), Keeper(web)
        beside, apart = Plain(names, strikes), Plain(names, strikes)
        self.check_done(one, beside, "take_name", ("a",))
        self.check_state(other, apart)
        self.check_done(other, apart, "put_strike", ("c", "a"))
        self.check_state(one, beside)
        third, along = Keeper(one.web_now()), Plain(["b", "c"], [("b", "c")])
        self.check_state(third, along)
        self.check_done(third, along, "put_strike", ("c", "b"))
        self.check_done(one, beside, "put_name", ("d",))
        self.check_state(third, along)
        self.check_undone(third, along)
        self.check_undone(third, along)
        self.assertEqual((web.all_names(), web.all_strikes()), (names, strikes))
        self.check_state(one, beside)
        self.check_state(other, apart)

    def test_told_webs_stay_as_they_were(self):
        keeper = Keeper(Web(["a", "b"], [("a", "b")]))
        first = keeper.web_now()
        keeper.put_name("c")
        second = keeper.web_now()
        keeper.take_name("a")
        self.assertEqual((first.all_names(), first.all_strikes()), (["a", "b"], [("a", "b")]))
        self.assertEqual((second.all_names(), second.all_strikes()), (["a", "b", "c"], [("a", "b")]))

    def test_told_lists_are_the_askers_own(self):
        keeper = Keeper(Web(["a", "b"], [("a", "b")]))
        keeper.put_strike("b", "a")
        for tell in (keeper.words, keeper.looked):
            told, again = tell(), tell()
            self.assertIsNot(told, again)
            plain.spoil(told)
            self.assertEqual(tell(), again)


class Drawn(Case):
    def drawn_change(self, source, beside):
        deed = source.choice(("put_name", "take_name", "put_strike", "put_strike", "put_strike", "take_strike"))
        names = beside.names + source.sample(POOL, 2)
        if deed == "put_name":
            return deed, (source.choice(POOL if len(beside.names) < 30 else beside.names),)
        if deed == "take_name":
            return deed, (source.choice(names),)
        if deed == "take_strike" and beside.strikes and source.random() < 0.8:
            return deed, source.choice(beside.strikes)
        return deed, (source.choice(names), source.choice(names))

    def run_changes(self, source, names, strikes, count):
        keeper, beside = Keeper(Web(names, strikes)), Plain(names, strikes)
        self.check_state(keeper, beside)
        self.assertEqual(keeper.looked(), [])
        refused = []
        for step in range(count):
            if source.random() < 0.2:
                self.check_undone(keeper, beside)
            else:
                refused.append(self.step(keeper, beside, *self.drawn_change(source, beside)))
        while beside.past:
            self.check_undone(keeper, beside)
        self.assertEqual(beside.state()[:2], (sorted(names), sorted(strikes)))
        self.check_undone(keeper, beside)
        self.check_undone(keeper, beside)
        return refused

    def drawn_start(self, source, many):
        names = source.sample(POOL, many)
        pairs = [(one, other) for one in names for other in names]
        return names, source.sample(pairs, min(len(pairs), source.choice((0, many // 2, many, 2 * many, 4 * many))))

    def test_drawn_rows_of_changes(self):
        source = random.Random(151)
        refused = []
        for many in list(range(0, 29)) + [0, 1, 2, 3, 4, 5, 6, 8, 10]:
            refused += self.run_changes(source, *self.drawn_start(source, many), 40)
        for due in ((BadName, 0), (NoName, None), (BadStrike, 0), (NoStrike, None)):
            self.assertGreater(refused.count(due), 10)
        self.assertGreater(refused.count(None), 500)

    def test_each_change_of_each_small_web(self):
        for names, strikes in list(plain.all_small_webs())[::5]:
            changes = [("put_name", ("d",))] + [("take_name", (name,)) for name in names]
            for one in names:
                for other in names:
                    changes.append(("take_strike" if (one, other) in strikes else "put_strike", (one, other)))
            keeper, beside = Keeper(Web(names, strikes)), Plain(names, strikes)
            for deed, things in changes:
                self.check_done(keeper, beside, deed, things)
                self.check_undone(keeper, beside)
            self.check_undone(keeper, beside)

    def test_at_the_bounds(self):
        source = random.Random(152)
        names, strikes = plain.great_web()
        keeper, beside = Keeper(Web(names, strikes)), Plain(names, strikes)
        for step in range(120):
            self.check_done(keeper, beside, "take_strike", source.choice(beside.strikes))
        for name in source.sample(names, 10):
            self.check_done(keeper, beside, "take_name", (name,))
        while beside.past:
            self.check_undone(keeper, beside)
        self.assertEqual(keeper.web_now().all_strikes(), sorted(strikes))


if __name__ == "__main__":
    unittest.main()
