"""[1], [2] and [17]: weaves, and what they refuse."""

import copy
import itertools
import unittest

import looms
from strikeweave.errors import BadWeave
from strikeweave.weaves import Weave

PEOPLE = [("ann", 3), ("bob", 0), ("cy", 9)]
SAYINGS = [("rain", "fact", ["ann", "cy"]), ("dry", "claim", []), ("ann", "claim", ["bob"])]
STRIKES = [("s", "rain", "dry"), ("t", "dry", "u"), ("u", "ann", "u"), ("v", "rain", "s")]
BACKS = [("rain", "ann"), ("ann", "dry"), ("dry", "rain")]
PARTS = ("people", "sayings", "strikes", "backs")

NO_NAMES = [None, 0, True, b"a", [], ["a"], ("a",), {}, "", "abcdefghi", "A", "aB", "a1", "a\n", "\n", " a", "a ", "\u00e4"]
NO_ROWS = [None, 5, True, "", "ab", "abc", [], (), ("x",), {}]


def fields(weave):
    return (weave.people, weave.sayings, weave.strikes, weave.backs)


def right_parts():
    return copy.deepcopy([PEOPLE, SAYINGS, STRIKES, BACKS])


class Case(unittest.TestCase):
    def refused(self, parts, part, place):
        was = repr(parts)
        for form in (list, tuple):
            with self.assertRaises(BadWeave) as caught:
                Weave(*[form(rows) for rows in parts])
            self.assertEqual((caught.exception.part, caught.exception.place), (part, place), parts)
        self.assertEqual(repr(parts), was)

    def refused_with(self, part, row, more=()):
        """This row refused at each place of a part that is right else."""
        at = PARTS.index(part)
        rows = right_parts()[at]
        for place in range(len(rows) + 1):
            parts = right_parts()
            parts[at].insert(place, row)
            parts[at] += more
            self.refused(parts, part, place)

    def taken_with(self, part, row):
        parts = right_parts()
        parts[PARTS.index(part)].append(row)
        weave = Weave(*parts)
        self.assertEqual(getattr(weave, part), parts[PARTS.index(part)])


class Told(Case):
    def test_fields(self):
        for form in (list, tuple):
            weave = Weave(form(PEOPLE), form(SAYINGS), form(STRIKES), form(BACKS))
            self.assertEqual(fields(weave), (PEOPLE, SAYINGS, STRIKES, BACKS))
            for field in fields(weave):
                self.assertIs(type(field), list)
                self.assertTrue(all(type(row) is tuple for row in field))

    def test_the_empty_weave(self):
        self.assertEqual(fields(Weave([], [], [], [])), ([], [], [], []))
        self.assertEqual(fields(Weave((), (), (), ())), ([], [], [], []))

    def test_speakers_become_lists(self):
        weave = Weave(PEOPLE, [("a", "fact", ("ann", "cy")), ("b", "claim", ()), ("c", "fact", ["cy"])], [], [])
        self.assertEqual(weave.sayings, [("a", "fact", ["ann", "cy"]), ("b", "claim", []), ("c", "fact", ["cy"])])
        self.assertTrue(all(type(row[2]) is list for row in weave.sayings))

    def test_order_stays(self):
        weave = Weave([("z", 1), ("a", 2)], [("y", "fact", ["z", "a"]), ("b", "claim", ["a", "z"])],
                      [("x", "y", "b"), ("c", "b", "y")], [("y", "b"), ("b", "y")])
        self.assertEqual([row[0] for row in weave.people + weave.sayings + weave.strikes], list("zaybxc"))
        self.assertEqual(weave.sayings[0][2], ["z", "a"])
        self.assertEqual(weave.backs, [("y", "b"), ("b", "y")])

    def test_what_was_handed_in_is_not_kept(self):
        people, sayings, strikes, backs = right_parts()
        weave = Weave(people, sayings, strikes, backs)
        for part in (people, sayings, strikes, backs):
            part.reverse()
            part.pop()
        for name, kind, speakers in sayings:
            speakers.append("x")
        self.assertEqual(fields(weave), (PEOPLE, SAYINGS, STRIKES, BACKS))

    def test_one_list_of_speakers_for_two_sayings(self):
        speakers = ["ann"]
        weave = Weave(PEOPLE, [("a", "fact", speakers), ("b", "claim", speakers)], [], [])
        speakers.append("bob")
        self.assertEqual(weave.sayings, [("a", "fact", ["ann"]), ("b", "claim", ["ann"])])
        self.assertIsNot(weave.sayings[0][2], weave.sayings[1][2])
        weave.sayings[0][2].append("cy")
        self.assertEqual(speakers, ["ann", "bob"])
        self.assertEqual(weave.sayings[1][2], ["ann"])

    def test_one_list_for_all_parts(self):
        nothing = []
        weave = Weave(nothing, nothing, nothing, nothing)
        self.assertEqual(len({id(field) for field in fields(weave) + (nothing,)}), 5)

    def test_two_weaves_of_one_anothers_fields(self):
        one = Weave(*right_parts())
        other = Weave(*fields(one))
        other.people.clear()
        other.sayings[0][2].clear()
        self.assertEqual(fields(one), (PEOPLE, SAYINGS, STRIKES, BACKS))

    def test_drawn_ones(self):
        for parts in looms.drawn_weaves(131, 150):
            was = repr(parts)
            self.assertEqual(fields(Weave(*parts)), parts)
            self.assertEqual(repr(parts), was)

    def test_somewhat_beyond_the_bounds_nothing_is_refused(self):
        people = [("p" + "x" * many + "q", 1) for many in range(7)] + [("p" + "y" * many, 1) for many in range(7)]
        sayings = [(name, "claim", [one for one, rank in people]) for name, rank in people]
        strikes = [("s" + name[:7], name, name) for name, rank in people if len(name) < 8]
        backs = [pair for pair in itertools.permutations([name for name, rank in people], 2)]
        self.assertEqual(fields(Weave(people, sayings, strikes, backs)), (people, sayings, strikes, backs))


class People(Case):
    def test_names(self):
        for name in NO_NAMES + ["ann", "bob", "cy"]:
            if name in ("ann", "bob", "cy"):
                parts = right_parts()
                parts[0].append((name, 1))
                self.refused(parts, "people", 3)
            else:
                self.refused_with("people", (name, 1))

    def test_the_second_of_two_is_refused(self):
        self.refused([[("a", 1), ("b", 1), ("a", 1), ("b", 1)], [], [], []], "people", 2)

    def test_ranks(self):
        for rank in (-1, 10, 11, True, False, None, "1", "", 1.0, [1], (1,), 10 ** 20):
            self.refused_with("people", ("x", rank))
        for rank in range(10):
            self.taken_with("people", ("x", rank))

    def test_rows(self):
        for row in NO_ROWS + [["x", 1], ("x", 1, 1), ("x",), "x1"]:
            self.refused_with("people", row)


class Sayings(Case):
    def test_names(self):
        for name in NO_NAMES:
            self.refused_with("sayings", (name, "fact", []))
        parts = right_parts()
        parts[1].append(("dry", "claim", []))
        self.refused(parts, "sayings", 3)
        self.taken_with("sayings", ("bob", "fact", []))

    def test_kinds(self):
        for kind in ("Fact", "facts", "", "fact\n", " claim", None, 0, True, ["fact"], ("fact",)):
            self.refused_with("sayings", ("x", kind, []))
        for kind in ("fact", "claim"):
            self.taken_with("sayings", ("x", kind, []))

    def test_speakers(self):
        for speakers in (
                ["zoe"], ["ann", "zoe"], ["ann", "ann"], ["ann", "bob", "ann"], ["rain"], [""], [None], [1], [True],
                [["ann"]], [("ann", 3)], "ann", "", None, 0, {"ann": 1}, ("zoe",), ("ann", "ann")):
            self.refused_with("sayings", ("x", "fact", speakers))
        for speakers in ([], ["ann"], ["cy", "ann"], ["cy", "bob", "ann"]):
            self.taken_with("sayings", ("x", "claim", speakers))

    def test_rows(self):
        for row in NO_ROWS + [["x", "fact", []], ("x", "fact"), ("x", "fact", [], []), ("x", [], "fact")]:
            self.refused_with("sayings", row)


class Strikes(Case):
    def test_names(self):
        for name in NO_NAMES:
            self.refused_with("strikes", (name, "rain", "dry"))
        for name in ("rain", "dry", "ann"):
            self.refused_with("strikes", (name, "rain", "dry"))
        for name in "stuv":
            parts = right_parts()
            parts[2].append((name, "rain", "dry"))
            self.refused(parts, "strikes", 4)
        self.taken_with("strikes", ("bob", "rain", "dry"))

    def test_ones(self):
        for one in ("s", "x", "bob", "cy", "", None, 1, True, ["rain"], ("rain",), "zoe"):
            self.refused_with("strikes", ("x", one, "dry"))
        for one in ("rain", "dry", "ann"):
            self.taken_with("strikes", ("x", one, "dry"))

    def test_goals(self):
        for goal in ("bob", "cy", "zoe", "", None, 1, True, ["dry"], ("dry",), "dry\n"):
            self.refused_with("strikes", ("x", "rain", goal))
        for goal in ("rain", "dry", "ann", "s", "t", "u", "v", "x"):
            self.taken_with("strikes", ("x", "rain", goal))

    def test_a_goal_is_there_by_a_row_that_is_not_so(self):
        for later in (("g",), ["g"], ("g", "rain"), ["g", "rain", "dry"], ("g", "zoe", "dry"), ("g", "rain", "zoe"),
                      ("g", "rain", "dry", "dry"), ("g", None, None), ["g", None]):
            parts = right_parts()
            parts[2] = [("x", "rain", "g"), ("y", "dry", "g"), later]
            self.refused(parts, "strikes", 2)
        for later in ("g", "gg", "", None, 5, (), [], (("g",), "rain", "dry"), ("h", "g", "g"), {"g": 1}):
            parts = right_parts()
            parts[2] = [("x", "rain", "dry"), ("y", "dry", "g"), later]
            self.refused(parts, "strikes", 1)
        parts = right_parts()
        parts[2] = [("x", "rain", "G"), ("G", "rain", "dry")]
        self.refused(parts, "strikes", 1)

    def test_a_goal_by_a_later_row_that_is_there_ahead(self):
        parts = right_parts()
        parts[2] = [("x", "rain", "y"), ("y", "dry", "x"), ("x", "rain", "y")]
        self.refused(parts, "strikes", 2)

    def test_rows(self):
        for row in NO_ROWS + [["x", "rain", "dry"], ("x", "rain"), ("x", "rain", "dry", "dry"), ("rain", "dry")]:
            self.refused_with("strikes", row)

    def test_without_sayings(self):
        self.refused([PEOPLE, [], [("s", "t", "s"), ("t", "s", "t")], []], "strikes", 0)


class Backs(Case):
    def test_sayings(self):
        for one in ("s", "bob", "zoe", "", None, 1, ["rain"], ("rain",)):
            self.refused_with("backs", (one, "dry"))
            self.refused_with("backs", ("dry", one))

    def test_of_one_to_itself(self):
        for one in ("rain", "dry", "ann"):
            self.refused_with("backs", (one, one))

    def test_twice(self):
        for at, row in enumerate(BACKS):
            parts = right_parts()
            parts[3].append(row)
            self.refused(parts, "backs", 3)
            parts = right_parts()
            parts[3].insert(at, row)
            self.refused(parts, "backs", at + 1)
        self.taken_with("backs", ("dry", "ann"))

    def test_rows(self):
        for row in NO_ROWS + [["dry", "ann"], ("dry", "ann", "rain"), ("dry",), ["rain", "ann"]]:
            self.refused_with("backs", row)


class TwoFaults(Case):
    WRONG = {"people": ("ann", 3, 3), "sayings": ("dry", "claim"), "strikes": ("S", "rain", "dry"), "backs": ("dry", "dry")}

    def test_the_first_part_goes(self):
        for first, second in itertools.combinations(range(4), 2):
            parts = right_parts()
            parts[first].append(self.WRONG[PARTS[first]])
            parts[second].insert(0, self.WRONG[PARTS[second]])
            self.refused(parts, PARTS[first], len(parts[first]) - 1)

    def test_the_first_place_goes(self):
        for at, part in enumerate(PARTS):
            for one, other in itertools.combinations(range(4), 2):
                parts = right_parts()
                parts[at].insert(one, self.WRONG[part])
                parts[at].insert(other, self.WRONG[part])
                self.refused(parts, part, one)

    def test_a_fault_of_one_part_is_not_told_of_another(self):
        # Without bob the saying that he speaks is wrong; without dry the strikes and backs of it are.
        people, sayings, strikes, backs = right_parts()
        self.refused([people[:1] + people[2:], sayings, strikes, backs], "sayings", 2)
        self.refused([people, sayings[:1] + sayings[2:], strikes, backs], "strikes", 0)
        self.refused([people, sayings[:1] + sayings[2:], [], backs], "backs", 1)


if __name__ == "__main__":
    unittest.main()
