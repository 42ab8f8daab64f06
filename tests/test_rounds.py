"""[1], [2], [7] and [8]: rounds, the least set, and rows that show it."""

import itertools
import random
import unittest

import papers
import plain
from strikeweave.rounds import least, rounds, shows_least
from strikeweave.sets import is_whole
from strikeweave.webs import Web


def broken_rings():
    """Rings of many sizes that a chain breaks, doesn't break, or strikes at twice."""
    for size in (1, 2, 3, 4, 5, 8, 15, 20):
        ring = [chr(ord("a") + k) for k in range(size)]
        strikes = [(one, ring[(k + 1) % size]) for k, one in enumerate(ring)]
        for length in (1, 2, 3, 4, 7):
            chain = ["x" + chr(ord("a") + k) for k in range(length)]
            into = strikes + list(zip(chain, chain[1:])) + [(chain[-1], ring[0])]
            yield ring + chain, into
            yield ring + chain, into + [(chain[0], ring[-1])] * (size > 1 or length > 1)
            yield ring + chain, into + [(ring[size // 2], chain[0])]
            yield ring + chain + ["y"], into + [("y", chain[-1])]


class Rounds(unittest.TestCase):
    def check(self, names, strikes):
        web = Web(plain.shuffled(1, names), plain.shuffled(2, strikes))
        right = plain.round_rows(names, strikes)
        told = rounds(web)
        self.assertEqual(told, right)
        self.assertIs(type(told), list)
        self.assertTrue(all(type(row) is tuple for row in told))
        self.assertEqual(least(web), plain.least_set(names, strikes))
        self.assertEqual(least(web), sorted(name for name, word, number in told if word == "in"))
        self.assertIs(type(least(web)), list)
        self.assertIs(shows_least(web, told), True)
        plain.spoil(told)
        plain.spoil(least(web))
        self.assertEqual(rounds(web), right, "the same is told again")
        self.assertEqual((web.all_names(), web.all_strikes()), (sorted(names), sorted(strikes)))

    def test_by_hand(self):
        web = Web(["e", "d", "c", "b", "a", "f"], [("d", "b"), ("b", "a"), ("c", "c"), ("c", "e"), ("a", "f")])
        self.assertEqual(rounds(web), [
            ("d", "in", 1), ("b", "out", 1), ("a", "in", 2), ("f", "out", 2), ("c", "open", None), ("e", "open", None)])
        self.assertEqual(least(web), ["a", "d"])

    def test_in_goes_ahead_of_out_and_each_rises(self):
        web = Web(["a", "b", "y", "z"], [("z", "a"), ("y", "b")])
        self.assertEqual(rounds(web), [("y", "in", 1), ("z", "in", 1), ("a", "out", 1), ("b", "out", 1)])
        self.assertEqual(least(web), ["y", "z"])

    def test_out_in_the_round_of_the_one_that_got_in(self):
        web = Web(["a", "b", "c"], [("a", "b"), ("b", "c")])
        self.assertEqual(rounds(web), [("a", "in", 1), ("b", "out", 1), ("c", "in", 2)])

    def test_out_by_one_though_another_striker_is_open(self):
        web = Web(["a", "b", "c"], [("b", "b"), ("b", "c"), ("a", "c")])
        self.assertEqual(rounds(web), [("a", "in", 1), ("c", "out", 1), ("b", "open", None)])

    def test_none_at_all(self):
        self.assertEqual(rounds(Web([], [])), [])
        self.assertEqual(least(Web([], [])), [])
        self.check([], [])
        self.assertEqual(rounds(Web(["b", "a"], [])), [("a", "in", 1), ("b", "in", 1)])
        self.check(plain.row_web(30)[0], [])

    def test_loops(self):
        self.assertEqual(rounds(Web(["a"], [("a", "a")])), [("a", "open", None)])
        self.check(["a", "b"], [("a", "a"), ("b", "a")])
        self.check(["a", "b"], [("a", "a"), ("a", "b")])

    def test_rings_even_and_odd(self):
        for size in range(1, 31):
            names, strikes = plain.ring_web(size)
            self.assertEqual(rounds(Web(names, strikes)), [(name, "open", None) for name in sorted(names)])
            self.check(names, strikes)

    def test_strikes_back_again(self):
        for size in (2, 3, 4, 9, 30):
            names, strikes = plain.row_web(size)
            back = strikes + [(other, one) for one, other in strikes]
            self.check(names, back)
            self.check(names, back[:-1])
            self.check(names, back[1:])

    def test_chains_of_many_names(self):
        names, strikes = plain.row_web(30)
        rows = [(name, ("in", "out")[at % 2], at // 2 + 1) for at, name in enumerate(names)]
        self.assertEqual(rounds(Web(names, strikes)), rows)
        for size in (2, 3, 4, 29, 30):
            self.check(*plain.row_web(size))
        # The chain against the names' order.
        self.check(names, [(other, one) for one, other in strikes])

    def test_rings_that_a_chain_breaks_or_does_not(self):
        for names, strikes in broken_rings():
            self.check(names, strikes)

    def test_all_small_webs(self):
        for names, strikes in plain.all_small_webs():
            self.check(names, strikes)

    def test_greater_webs(self):
        for names, strikes in plain.some_webs(21, 150, 18):
            self.check(names, strikes)

    def test_up_to_the_bounds(self):
        names, strikes = plain.great_web()
        self.check(names, strikes)
        source = random.Random(22)
        for count in (20, 25, 30, 35, 45, 60, 90, 150) * 6:
            pairs = source.sample(list(itertools.product(names, names)), count)
            self.check(names, pairs)
            # Without rings all names get a word, in many rounds.
            self.check(names, [(one, other) for one, other in pairs if one < other])
        layered = [(one, other) for at, one in enumerate(names) for other in names[at + 1:at + 6]]
        self.check(names, layered)
        self.assertGreater(len(rounds(Web(names, layered))), 0)

    def test_somewhat_beyond_the_bounds(self):
        names, strikes = plain.row_web(36)
        self.check(names, strikes + [(names[0], name) for name in names[2:]])

    def test_least_is_whole_and_within_each_whole_set(self):
        for names, strikes in itertools.chain(plain.all_small_webs(), plain.some_webs(23, 40, 7)):
            web = Web(names, strikes)
            told = least(web)
            self.assertTrue(is_whole(web, told))
            for some in plain.all_whole(names, strikes):
                self.assertLessEqual(set(told), set(some))

    def test_no_list_is_told_twice(self):
        web = Web(["a", "b"], [("a", "b")])
        told = [deed(web) for deed in (rounds, least, rounds, least)]
        self.assertEqual(len({id(one) for one in told}), 4)


def grounded(names, strikes, rows):
    """[8] by its words, of any rows."""
    if type(rows) not in (list, tuple):
        return False
    given = {}
    for row in rows:
        if type(row) is not tuple or len(row) != 3 or type(row[0]) is not str or row[0] not in names:
            return False
        name, word, number = row
        if name in given or type(word) is not str:
            return False
        if not (word in ("in", "out") and type(number) is int or word == "open" and number is None):
            return False
        given[name] = (word, number)
    if len(given) != len(names):
        return False
    for name, (word, number) in given.items():
        against = [given[one] for one, other in strikes if other == name]
        if word == "in" and not all(his == "out" and nr < number for his, nr in against):
            return False
        if word == "out" and not any(his == "in" and nr <= number for his, nr in against):
            return False
        if word == "open" and (any(his == "in" for his, nr in against) or not any(his == "open" for his, nr in against)):
            return False
    return True


class ShowsLeast(unittest.TestCase):
    def ask(self, names, strikes, rows):
        """The answer, looked at beside the plain one."""
        kept = repr(rows)
        answer = shows_least(Web(names, strikes), rows)
        self.assertIs(answer, grounded(names, strikes, rows), (strikes, rows))
        self.assertEqual(repr(rows), kept)
        if answer:
            self.assertEqual(sorted(row[0] for row in rows if row[1] == "in"), plain.least_set(names, strikes))
        return answer

    def check_taken(self, names, strikes):
        rows = rounds(Web(names, strikes))
        taken = [
            rows, tuple(rows), rows[::-1], plain.shuffled(3, rows),
            [(name, word, number and 10 ** 40 * number - 10 ** 42) for name, word, number in rows],
            [(name, word, number and 2 * number + (word == "out")) for name, word, number in rows],
            [(name, word, number and number ** 3 - 500) for name, word, number in rows],
        ]
        for one in taken:
            self.assertIs(self.ask(names, strikes, one), True)

    def test_rounds_rows_are_taken(self):
        for names, strikes in itertools.chain(
                plain.all_small_webs(), plain.some_webs(24, 60, 18), broken_rings(), [plain.great_web()],
                [plain.row_web(30), plain.ring_web(30), plain.ring_web(29)]):
            self.check_taken(names, strikes)

    def test_other_numbers_by_hand(self):
        names, strikes = plain.row_web(4)
        for numbers, right in (
                ((1, 1, 2, 2), True), ((-7, -7, 0, 0), True), ((1, 10 ** 50, 10 ** 51, 10 ** 51), True),
                ((0, 1, 2, 3), True), ((5, 4, 6, 7), False), ((1, 1, 1, 1), False), ((1, 2, 2, 2), False),
                ((1, 1, 2, 1), False), ((2, 1, 2, 2), False), ((-1, -1, 0, -1), False), ((0, 0, 1, 1), True)):
            rows = list(zip(names, ("in", "out", "in", "out"), numbers))
            self.assertIs(self.ask(names, strikes, rows), right)

    def row_otherwise(self, names, row):
        name, word, number = row
        for thing in papers.THINGS:
            yield thing
            yield (thing, word, number)
            yield (name, thing, number)
            yield (name, word, thing)
        for other in names + ["zz", "", "A"]:
            yield (other, word, number)
        for other in ("in", "out", "open", "In", "none", "", None):
            yield (name, other, number)
            yield (name, other, None)
            yield (name, other, 1)
        for other in (1.0, "1", [1], (1,), number and number - 1, number and number + 1, number and -number):
            yield (name, word, other)
        yield list(row)
        yield row[:2]
        yield row + (None,)
        yield row + (number,)
        yield (word, name, number)

    def check_otherwise(self, names, strikes):
        rows = rounds(Web(names, strikes))
        many = 0
        for at, row in enumerate(rows):
            others = list(self.row_otherwise(sorted(names), row))
            others += [(row[0], row[1], other[2]) for other in rows] + [(row[0],) + other[1:] for other in rows]
            for other in others:
                many += not self.ask(names, strikes, rows[:at] + [other] + rows[at + 1:])
            self.assertIs(self.ask(names, strikes, rows[:at] + rows[at + 1:]), False)
            self.assertIs(self.ask(names, strikes, rows[:at] + [row] + rows[at:]), False)
            self.assertIs(self.ask(names, strikes, rows[:at + 1] + [list(row)] + rows[at + 1:]), False)
            self.assertIs(self.ask(names, strikes, [list(one) for one in rows]), False)
            self.assertIs(self.ask(names, strikes, rows + [(row[0], "open", None)]), False)
        for thing in [("zz", "in", 1), None, (), "abc"]:
            self.assertIs(self.ask(names, strikes, rows + [thing]), False)
        return many

    def test_rows_with_one_thing_otherwise(self):
        webs = list(plain.all_small_webs())[::9] + list(plain.some_webs(25, 12, 9)) + [plain.row_web(12)]
        self.assertGreater(sum(self.check_otherwise(names, strikes) for names, strikes in webs), 1000)

    def test_things_that_are_no_rows(self):
        for names, strikes in ([[], []], [["a"], []], [["a"], [("a", "a")]], plain.row_web(3)):
            for thing in papers.THINGS + ["a", "abc", b"a", 1.5, {}, [None], (None,), ["abc"], [["a", "in", 1]]]:
                self.ask(names, strikes, thing)
            self.assertIs(self.ask(names, strikes, None), False)

    def test_of_the_empty_web(self):
        self.assertIs(self.ask([], [], []), True)
        self.assertIs(self.ask([], [], ()), True)
        for thing in (None, "", 0, False, [()], [("a", "in", 1)], [("", "open", None)]):
            self.assertIs(self.ask([], [], thing), False)

    def test_all_rows_of_two_names(self):
        rows = [(word, number) for word in ("in", "out", "open") for number in (None, -1, 0, 1, True)]
        names = ["a", "b"]
        for strikes in plain.subsets(itertools.product(names, names)):
            for one, other in itertools.product(rows, rows):
                self.ask(names, list(strikes), [("a",) + one, ("b",) + other])

    def test_drawn_rows_of_more_names(self):
        source = random.Random(26)
        taken = 0
        for names, strikes in plain.drawn_webs(27, 60, 3, 5):
            for step in range(150):
                rows = []
                for name in names:
                    word = source.choice(("in", "out", "open"))
                    rows.append((name, word, None if word == "open" else source.randint(0, 3)))
                taken += self.ask(names, strikes, rows)
        self.assertGreater(taken, 20)

    def test_an_even_ring_by_turns_is_never_taken(self):
        for size in (2, 4):
            names, strikes = plain.ring_web(size)
            for numbers in itertools.product(range(-2, 4), repeat=size):
                rows = [(name, ("in", "out")[at % 2], numbers[at]) for at, name in enumerate(names)]
                self.assertIs(self.ask(names, strikes, rows), False)
        source = random.Random(28)
        names, strikes = plain.ring_web(30)
        for step in range(200):
            rows = [(name, ("in", "out")[at % 2], source.randint(-40, 40)) for at, name in enumerate(names)]
            self.assertIs(self.ask(names, strikes, rows), False)

    def test_open_needs_an_open_striker_and_none_that_is_in(self):
        self.assertIs(self.ask(["a"], [], [("a", "open", None)]), False)
        self.assertIs(self.ask(["a", "b"], [("a", "b")], [("a", "in", 1), ("b", "open", None)]), False)
        strikes = [("a", "c"), ("b", "b"), ("b", "c")]
        rows = [("a", "in", 1), ("b", "open", None), ("c", "open", None)]
        self.assertIs(self.ask(["a", "b", "c"], strikes, rows), False)
        self.assertIs(self.ask(["a", "b", "c"], strikes, rows[:2] + [("c", "out", 1)]), True)


if __name__ == "__main__":
    unittest.main()
