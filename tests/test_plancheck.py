"""[2], [13] and [16]: which plans of who wins a dispute are taken, and which are not."""

import itertools
import random
import unittest

import games
import papers
import plain
from strikeweave.errors import NoName
from strikeweave.plancheck import shows_won
from strikeweave.plans import won_by
from strikeweave.webs import Web

KINDS = ("firm", "some")
NUMBERS = (-10 ** 30, -2, -1, 0, 1, 2, 3, 5, 10 ** 30, True, False, None, "1", [1], (1,))


class Looks(unittest.TestCase):
    """What is asked here is asked of a plain look, too."""

    def ask(self, names, strikes, name, kind, told):
        was = repr(told)
        answer = shows_won(Web(names, strikes), name, kind, told)
        self.assertIs(answer, papers.shows_won(names, strikes, name, kind, told), (strikes, name, kind, told))
        self.assertEqual(repr(told), was)
        return answer

    def webs(self, small, others):
        return list(plain.all_small_webs())[3::small] + plain.drawn_webs(121, others, 4, 6) + [
            plain.cliques([2, 2]), plain.ring_web(5), plain.row_web(6)]


class ByHand(Looks):
    # d strikes c, c strikes b, b strikes a: in are d and b. e and f strike one another, and both a.
    NAMES = ["a", "b", "c", "d", "e", "f"]
    STRIKES = plain.pairs_of("dc cb ba ef fe ea fa")

    def firm(self, name, who, plan):
        return self.ask(self.NAMES, self.STRIKES, name, "firm", (who, plan))

    def some(self, name, who, plan):
        return self.ask(self.NAMES, self.STRIKES, name, "some", (who, plan))

    def test_firm_asker(self):
        at_b, at_d = ("b", 2, (("c", "d"),)), ("d", 1, ())
        for plan in ([at_b, at_d], [at_d, at_b], (at_b, at_d), [("b", 0, (("c", "d"),)), ("d", -1, ())],
                     [("d", -10 ** 50, ()), ("b", 10 ** 50, (("c", "d"),))]):
            self.assertIs(self.firm("b", "asker", plan), True)
            self.assertIs(self.firm("d", "asker", plan), True)
            self.assertIs(self.firm("a", "asker", plan), False, "a has no row")
            self.assertIs(self.firm("b", "doubter", plan), False)
        for plan in ([at_b], [at_d], [], [at_b, at_d, at_d], [at_b, at_b, at_d], [at_b, at_d, ("e", 1, ())],
                     [at_b, at_d, ("zz", 1, ())], [("b", 1, (("c", "d"),)), at_d], [("b", 0, (("c", "d"),)), at_d],
                     [("b", True, (("c", "d"),)), ("d", 0, ())], [("b", 2, [("c", "d")]), at_d],
                     [("b", 2, (["c", "d"],)), at_d], [("b", 2, ()), at_d], [("b", 2, (("d", "c"),)), at_d],
                     [("b", 2, (("c", "d"), ("c", "d"))), at_d], [("b", 2, (("c", "b"),)), at_d],
                     [("b", 2, (("c", "d", "d"),)), at_d], [at_b, ("d", 1, (("a", "a"),))], [at_b, ["d", 1, ()]],
                     [at_b, ("d", 1)], [at_b, ("d", None, ())], [at_b, ("d", 1, ()), None], None, "bd", 5):
            self.assertIs(self.firm("b", "asker", plan), False)

    def test_firm_doubter(self):
        for name, plan in (
                ("c", [("c", "d")]), ("a", [("a", "b"), ("c", "d")]), ("a", [("c", "d"), ("a", "b")]),
                ("e", [("e", "f")]), ("e", [("e", "f"), ("f", "e")]), ("a", (("a", "e"), ("f", "e"))),
                ("a", [("a", "e"), ("e", "f"), ("f", "e"), ("c", "d")])):
            self.assertIs(self.firm(name, "doubter", plan), True)
            self.assertIs(self.firm(name, "asker", plan), False)
        self.assertIs(self.firm("a", "doubter", [("a", "b")]), False, "c strikes b and has no row")
        self.assertIs(self.firm("e", "doubter", [("f", "e")]), False)
        self.assertIs(self.firm("e", "doubter", [("e", "f"), ("f", "a")]), False)
        self.assertIs(self.firm("c", "doubter", [("c", "d"), ("c", "d")]), False)
        self.assertIs(self.firm("c", "doubter", [["c", "d"]]), False)
        self.assertIs(self.firm("c", "doubter", [("c", "b")]), False)
        self.assertIs(self.firm("c", "doubter", [("c", ["d"])]), False)
        self.assertIs(self.firm("c", "doubter", [("c", "d"), ("zz", "d")]), False)
        self.assertIs(self.firm("c", "doubter", {"c": "d"}), False)

    def test_some_asker(self):
        for plan in (["b", "d"], ["d", "b"], ("b", "d"), ["d", "e", "b"], ["f", "d", "b"]):
            self.assertIs(self.some("b", "asker", plan), True)
            self.assertIs(self.some("c", "asker", plan), False)
            self.assertIs(self.some("b", "doubter", plan), False)
            self.assertIs(self.firm("b", "asker", plan), False)
        for plan in (["b"], ["d"], [], ["b", "d", "b"], ["b", "d", "zz"], ["b", "d", "e", "f"], "bd", None, [["b", "d"]]):
            self.assertIs(self.some("b", "asker", plan), False)

    def test_some_doubter(self):
        self.assertIs(self.some("c", "doubter", ("answer", "c", "d", ())), True)
        tree = ("answer", "a", "b", (("answer", "c", "d", ()),))
        self.assertIs(self.some("a", "doubter", tree), True)
        for wrong in (list(tree), tree[:3] + ([tree[3][0]],), ("answer", "a", "b", ()), ("clash", "a", "a"), None):
            self.assertIs(self.some("a", "doubter", wrong), False)
        self.assertIs(self.some("b", "doubter", tree), False)
        self.assertIs(self.some("a", "asker", tree), False)
        self.assertIs(self.firm("a", "doubter", tree), False)

    def test_the_pair(self):
        plan = [("c", "d")]
        for told in (["doubter", plan], ("doubter",), ("doubter", plan, None), (plan, "doubter"), plan, (), None,
                     ("Doubter", plan), ("", plan), (None, plan), (["doubter"], plan), (True, plan), "doubter"):
            self.assertIs(self.ask(self.NAMES, self.STRIKES, "c", "firm", told), False)
        self.assertIs(self.firm("c", "doubter", plan), True)

    def test_names_that_strike_themselves(self):
        names, strikes = ["a", "b"], plain.pairs_of("aa ab")
        self.assertIs(self.ask(names, strikes, "a", "firm", ("doubter", [("a", "a")])), True)
        self.assertIs(self.ask(names, strikes, "b", "firm", ("doubter", [("a", "a"), ("b", "a")])), True)
        self.assertIs(self.ask(names, strikes, "b", "firm", ("doubter", [("b", "a")])), False)
        self.assertIs(self.ask(names, strikes, "a", "some", ("doubter", ("clash", "a", "a"))), True)
        self.assertIs(self.ask(names, strikes, "a", "some", ("asker", ["a"])), False)

    def test_a_number_does_not_lean_on_itself(self):
        names, strikes = ["a", "b"], plain.pairs_of("ab ba")
        for low, high in ((1, 1), (1, 2), (2, 1)):
            plan = [("a", low, (("b", "a"),)), ("b", high, (("a", "b"),))]
            self.assertIs(self.ask(names, strikes, "a", "firm", ("asker", plan)), False)

    def test_names_that_are_none_of_the_webs(self):
        web = Web(self.NAMES, self.STRIKES)
        for kind in KINDS:
            for name in ("z", "", "A", "ab", "a\n", None, 0, True, ["a"], ("a",)):
                for told in papers.THINGS + [won_by(web, "a", kind), won_by(web, "b", kind)]:
                    self.assertRaises(NoName, shows_won, web, name, kind, told)
            self.assertRaises(NoName, shows_won, Web([], []), "a", kind, ("asker", []))


def plan_numbers_otherwise(plan):
    """Rows of an asker's plan with another number at one place."""
    for at, (name, number, answers) in enumerate(plan):
        for other in NUMBERS + (number - 1, number + 1):
            yield plan[:at] + [(name, other, answers)] + plan[at + 1:]


def answers_otherwise(names, answers):
    yield from papers.list_otherwise(
        list(answers), lambda pair: papers.pair_otherwise(names, pair, lambda answer: names))
    for other in papers.list_otherwise(
            list(answers), lambda pair: papers.pair_otherwise(names, pair, lambda answer: names)):
        if type(other) is list:
            yield tuple(other)


def asker_rows_otherwise(names, plan):
    def row_otherwise(row):
        yield from papers.THINGS
        yield list(row)
        yield row[:2]
        yield row + (None,)
        yield (row[1], row[0], row[2])
        for thing in papers.THINGS + list(names):
            yield (thing,) + row[1:]
            yield (row[0], thing, row[2])
        for answers in answers_otherwise(names, row[2]):
            yield row[:2] + (answers,)
    yield from plan_numbers_otherwise(plan)
    yield from papers.list_otherwise(plan, row_otherwise)
    for name in names:
        yield plan + [(name, 1, ())]
        yield plan + [(name, 10 ** 9, tuple((one, name) for one in names))]


def doubter_rows_otherwise(names, plan):
    yield from papers.list_otherwise(
        plan, lambda pair: papers.pair_otherwise(names, pair, lambda doubt: list(names) + ["zz"]))
    for name in names:
        for doubt in names:
            yield plan + [(name, doubt)]


def set_otherwise(names, some):
    yield from papers.list_otherwise(some, lambda name: list(names) + papers.THINGS)
    for name in list(names) + ["zz"]:
        yield some + [name]
    for other in plain.subsets(names):
        yield list(other)


def plan_otherwise(names, kind, who, plan):
    if kind == "some":
        return set_otherwise(names, plan) if who == "asker" else papers.tree_otherwise(names, plan)
    return (asker_rows_otherwise if who == "asker" else doubter_rows_otherwise)(names, plan)


def told_otherwise(names, kind, told):
    """A told pair with one thing otherwise, at any place."""
    who, plan = told
    yield from papers.pair_otherwise(names, told, lambda thing: plan_otherwise(names, kind, who, plan))
    yield (games.other_one(who), plan)


class Otherwise(Looks):
    def test_told_ones_are_taken(self):
        for names, strikes in itertools.chain(plain.all_small_webs(), plain.drawn_webs(122, 40, 4, 9)):
            web = Web(names, strikes)
            for name in names:
                for kind in KINDS:
                    self.assertIs(self.ask(names, strikes, name, kind, won_by(web, name, kind)), True)

    def test_of_another_name_and_of_the_other_kind(self):
        for names, strikes in itertools.chain(plain.all_small_webs(), plain.drawn_webs(123, 20, 4, 6)):
            web = Web(names, strikes)
            for name in names:
                for kind in KINDS:
                    who, plan = won_by(web, name, kind)
                    for other in names:
                        for another in KINDS:
                            self.ask(names, strikes, other, another, (who, plan))
                            self.ask(names, strikes, other, another, (games.other_one(who), plan))

    def test_with_one_thing_otherwise(self):
        taken, wrong = {}, {}
        for names, strikes in self.webs(9, 14):
            web = Web(names, strikes)
            for name in names:
                for kind in KINDS:
                    told = won_by(web, name, kind)
                    for other in papers.drawn(124, told_otherwise(names, kind, told), 700):
                        answer = self.ask(names, strikes, name, kind, other)
                        if answer:
                            self.assertEqual(other[0], told[0], "a plan that is taken is right")
                        count = taken if answer else wrong
                        count[kind, told[0]] = count.get((kind, told[0]), 0) + 1
        for key in itertools.product(KINDS, ("asker", "doubter")):
            self.assertGreater(taken[key], 100)
            self.assertGreater(wrong[key], 1000)

    def test_things_of_all_kinds(self):
        for names, strikes in ([["a"], [("a", "a")]], [["a"], []], plain.cliques([2]), plain.row_web(3)):
            for thing in papers.THINGS:
                for kind in KINDS:
                    self.ask(names, strikes, names[0], kind, thing)
                    for who in ("asker", "doubter"):
                        self.ask(names, strikes, names[0], kind, (who, thing))
                        self.ask(names, strikes, names[0], kind, (who, [thing]))
                        self.ask(names, strikes, names[0], kind, (who, [(names[0], 1, thing)]))
                        self.ask(names, strikes, names[0], kind, (who, [(names[0], 1, (thing,))]))
                        self.ask(names, strikes, names[0], kind, (who, [(names[0], thing)]))

    def test_up_to_the_bounds(self):
        names, strikes = plain.great_web()
        acyclic = [(one, other) for one, other in strikes if one < other]
        for webs, kind in (([(names, strikes), (names, acyclic), plain.row_web(30)], "firm"),
                           (plain.drawn_webs(125, 3, 12, 12), "some")):
            for some, pairs in webs:
                web = Web(some, pairs)
                for name in some[::4]:
                    told = won_by(web, name, kind)
                    self.assertIs(self.ask(some, pairs, name, kind, told), True)
                    others = itertools.islice(told_otherwise(some, kind, told), 3000)
                    for other in papers.drawn(126, others, 40):
                        self.ask(some, pairs, name, kind, other)


class NotTold(Looks):
    """Plans that were not told, but are so."""

    def firm_asker(self, source, names, strikes, name):
        """Rows by numbers drawn anew: a name comes behind those that answer its doubts."""
        rows, number = [], source.choice((-10 ** 40, -7, 0, 10 ** 40))
        while name not in [row[0] for row in rows] or source.random() < 0.5:
            done = [row[0] for row in rows]
            fit = [one for one in names if one not in done and all(
                any((mine, doubt) in strikes for mine in done) for doubt, other in strikes if other == one)]
            if not fit:
                break
            one = source.choice(fit)
            doubts = sorted(doubt for doubt, other in strikes if other == one)
            answers = [source.choice([mine for mine in done if (mine, doubt) in strikes]) for doubt in doubts]
            rows.append((one, number, tuple(zip(doubts, answers))))
            number += source.choice((1, 1, 5, 10 ** 30))
        source.shuffle(rows)
        return rows

    def firm_doubter(self, source, names, strikes, name):
        winners = plain.least_set(names, strikes)
        losers = [one for one in names if one not in winners]
        waiting, doubts = [name] + source.sample(losers, source.randint(0, len(losers))), {}
        while waiting:
            one = waiting.pop()
            if one not in doubts:
                fit = [doubt for doubt, other in strikes if other == one
                       and not any((mine, doubt) in strikes for mine in winners)]
                doubts[one] = source.choice(fit)
                waiting += [answer for answer, other in strikes if other == doubts[one]]
        rows = list(doubts.items())
        source.shuffle(rows)
        return rows

    def some_asker(self, source, names, strikes, name):
        some = source.choice([some for some in plain.all_standing(names, strikes) if name in some])
        source.shuffle(some)
        return some

    def some_doubter(self, source, names, strikes, name):
        return papers.drawn_tree(source, names, strikes, [], ("clash", "answer"), [name])

    def test_drawn_plans_are_taken(self):
        source = random.Random(127)
        fresh = {}
        for names, strikes in list(plain.all_small_webs())[::3] + plain.drawn_webs(128, 40, 4, 6):
            web = Web(names, strikes)
            for name in names:
                for kind in KINDS:
                    told = won_by(web, name, kind)
                    draw = getattr(self, kind + "_" + told[0])
                    for again in range(4):
                        plan = draw(source, names, strikes, name)
                        if type(plan) is list and again % 2:
                            plan = tuple(plan)
                        self.assertIs(self.ask(names, strikes, name, kind, (told[0], plan)), True)
                        fresh[kind, told[0]] = fresh.get((kind, told[0]), 0) + (plan != told[1])
        self.assertGreater(min(fresh.values()), 50)
        self.assertEqual(len(fresh), 4)

    def test_a_plan_of_each_is_taken_of_one_alone(self):
        for names, strikes in plain.all_small_webs():
            for name in names:
                for kind in KINDS:
                    who, plan = won_by(Web(names, strikes), name, kind)
                    self.assertEqual(who, games.who_wins(names, strikes, kind, name))
                    self.assertIs(self.ask(names, strikes, name, kind, (games.other_one(who), plan)), False)


if __name__ == "__main__":
    unittest.main()
