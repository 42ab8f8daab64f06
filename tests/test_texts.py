"""[1], [2] and [23]: weaves written as texts and read back, and rows that are refused."""

import itertools
import random
import unittest

import looms
from strikeweave.errors import BadRow
from strikeweave.texts import text_of, weave_of
from strikeweave.weaves import Weave

ROWS = [
    "person ann 3", "person bob 0", "say rain fact ann bob", "say dry claim", "say ann claim bob",
    "strike s rain dry", "strike t dry u", "strike u ann u", "back rain ann", "back ann dry"]


def fields(weave):
    return (weave.people, weave.sayings, weave.strikes, weave.backs)


def row_texts(parts):
    """The rows of a weave's text, by the words of [23]."""
    people, sayings, strikes, backs = parts
    rows = ["person " + name + " " + str(rank) for name, rank in people]
    rows += ["say " + name + " " + kind + "".join(" " + one for one in speakers) for name, kind, speakers in sayings]
    rows += ["strike " + " ".join(row) for row in strikes]
    return rows + ["back " + " ".join(row) for row in backs]


class Case(unittest.TestCase):
    def refused(self, rows, number):
        with self.assertRaises(BadRow) as caught:
            weave_of("\n".join(rows))
        self.assertEqual(caught.exception.row, number, rows)
        self.assertIs(type(caught.exception.row), int)


class Written(Case):
    def check(self, parts):
        weave = Weave(*parts)
        text = text_of(weave)
        self.assertEqual(text, "\n".join(row_texts(parts)))
        self.assertEqual(text_of(weave), text)
        self.assertEqual(fields(weave), parts)
        again = weave_of(text)
        self.assertIs(type(again), Weave)
        self.assertEqual(fields(again), parts)
        self.assertEqual(text_of(again), text)

    def test_by_hand(self):
        weave = weave_of("\n".join(ROWS))
        self.assertEqual(fields(weave), (
            [("ann", 3), ("bob", 0)],
            [("rain", "fact", ["ann", "bob"]), ("dry", "claim", []), ("ann", "claim", ["bob"])],
            [("s", "rain", "dry"), ("t", "dry", "u"), ("u", "ann", "u")], [("rain", "ann"), ("ann", "dry")]))
        self.assertEqual(text_of(weave), "\n".join(ROWS))
        for field in fields(weave):
            self.assertTrue(all(type(row) is tuple for row in field))
        self.assertTrue(all(type(row[2]) is list for row in weave.sayings))

    def test_the_empty_weave(self):
        self.assertEqual(text_of(Weave([], [], [], [])), "")
        self.assertEqual(fields(weave_of("")), ([], [], [], []))

    def test_parts_that_are_missing(self):
        self.check(([], [("a", "fact", [])], [], []))
        self.check(([("a", 0)], [], [], []))
        self.check(([], [("a", "fact", [])], [("s", "a", "s")], []))
        self.check(([], [("a", "fact", []), ("b", "claim", [])], [], [("b", "a")]))

    def test_people_and_sayings_of_one_name(self):
        self.check(([("a", 1), ("b", 2)], [("b", "fact", ["b", "a"]), ("a", "claim", ["a"])], [("c", "a", "b")], []))

    def test_strikes_at_later_strikes(self):
        self.check(([], [("a", "fact", [])], [("s", "a", "u"), ("t", "a", "s"), ("u", "a", "t")], []))

    def test_names_like_words_of_the_text(self):
        self.check(([("person", 1), ("say", 2)], [("say", "claim", ["person"]), ("back", "fact", []), ("fact", "fact", [])],
                    [("strike", "say", "back"), ("claim", "back", "strike")], [("say", "back"), ("back", "fact")]))

    def test_each_rank(self):
        self.check(([("abcdefghij"[rank], rank) for rank in range(10)], [], [], []))

    def test_drawn_ones(self):
        for parts in looms.drawn_weaves(191, 200) + looms.drawn_weaves(192, 100, (2, 3, 4, 2)):
            self.check(parts)

    def test_speakers_are_the_weaves_own(self):
        weave = weave_of("person a 1\nsay b fact a\nsay c fact a")
        self.assertIsNot(weave.sayings[0][2], weave.sayings[1][2])

    def test_tuples_for_speakers(self):
        self.assertEqual(text_of(Weave((("a", 1),), (("b", "fact", ("a",)),), (), ())), "person a 1\nsay b fact a")


class NotSoWritten(Case):
    def refused_anywhere(self, row):
        """This row in the place of each one, or put in at any place, behind all others too."""
        for at in range(len(ROWS) + 1):
            self.refused(ROWS[:at] + [row] + ROWS[at:], at)
        self.refused([row, row], 0)

    def test_rows_without_words_and_blanks(self):
        for row in ("", " ", "  ", "\t", "person", "say", "strike", "back", "person ", "say ", " say"):
            self.refused_anywhere(row)

    def test_a_line_feed_behind_the_last_row(self):
        self.refused(["person ann 3", ""], 1)
        with self.assertRaises(BadRow) as caught:
            weave_of("\n")
        self.assertEqual(caught.exception.row, 0)

    def test_blanks_too_many(self):
        for at, row in enumerate(ROWS):
            for other in [" " + row, row + " ", row.replace(" ", "  ", 1), row.replace(" ", "\t", 1),
                          "  ".join(row.rsplit(" ", 1)), row.replace(" ", ""), row + "\r", row.upper()]:
                # The goal of the row ahead is the strike u.
                number = 6 if row.startswith("strike u") else at
                self.refused(ROWS[:at] + [other] + ROWS[at + 1:], number)

    def test_words_too_few_or_too_many(self):
        for row in ("person x", "person x 1 1", "person x 1 ann", "say x", "say", "strike x rain", "strike x",
                    "strike x rain dry dry", "back rain", "back rain dry ann", "back dry ann s", "person", "strike"):
            self.refused_anywhere(row)

    def test_names_that_are_none(self):
        for name in ("X", "abcdefghi", "x1", "1", "x-y", "x.", "~"):
            for row in ("person {} 1", "say {} fact", "say x fact {}", "say x fact ann {}", "strike {} rain dry",
                        "strike x {} dry", "strike x rain {}", "back {} dry", "back dry {}"):
                self.refused_anywhere(row.replace("{}", name))

    def test_ranks(self):
        for rank in ("10", "00", "01", "-1", "+1", "x", "", "1.", "\u00b2", "\u0663", "1 "):
            self.refused_anywhere("person x " + rank)
        for sign in map(chr, range(32, 127)):
            if sign not in "0123456789":
                self.refused(["person x " + sign], 0)

    def test_kinds_and_other_words(self):
        for row in ("say x facts", "say x Fact", "say x ann", "say fact x", "say x fact fact1", "Person x 1", "people x 1",
                    "saying x fact", "strikes x rain dry", "backs dry ann", "drop dry", "counting", "x", "# x", "unback rain ann"):
            self.refused_anywhere(row)


class Order(Case):
    def test_rows_behind_one_of_a_later_sort(self):
        fresh = ["person x 1", "say x fact", "strike x rain dry", "back dry ann"]
        begins = [0, 2, 5, 8, 10]
        for sort, row in enumerate(fresh):
            for at in range(len(ROWS) + 1):
                if begins[sort] <= at <= begins[sort + 1]:
                    self.assertEqual(text_of(weave_of("\n".join(ROWS[:at] + [row] + ROWS[at:]))).split("\n")[at], row)
                elif at > begins[sort + 1]:
                    self.refused(ROWS[:at] + [row] + ROWS[at:], at)

    def test_rows_ahead_of_one_of_an_earlier_sort(self):
        self.refused(["say x fact", "person ann 3"], 1)
        self.refused(["say x fact", "strike y x x", "say z fact"], 2)
        self.refused(["say x fact", "say z fact", "back x z", "strike y x x"], 3)
        self.refused(["say x fact", "say z fact", "back x z", "person ann 3"], 3)


class NotLet(Case):
    def test_what_a_weave_refuses(self):
        for number, row in (
                (2, "person ann 4"), (2, "person bob 0"), (5, "say rain fact"), (5, "say x claim zoe"),
                (5, "say x claim rain"), (5, "say x claim ann ann"), (5, "say x claim ann bob ann"),
                (8, "strike rain dry dry"), (8, "strike s rain dry"), (8, "strike x s dry"), (8, "strike x bob dry"),
                (8, "strike x zoe dry"), (8, "strike x rain zoe"), (8, "strike x rain bob"),
                (10, "back rain ann"), (10, "back rain rain"), (10, "back rain s"), (10, "back s rain"),
                (10, "back bob rain"), (10, "back rain zoe")):
            self.refused(ROWS[:number] + [row] + ROWS[number:], number)

    def test_people_and_sayings_are_those_of_rows_ahead(self):
        self.refused(["say x fact ann", "person ann 1"], 0)
        self.refused(["say x fact", "strike s x y", "say y fact"], 1)
        self.refused(["say x fact", "strike s y x", "say y fact"], 1)
        self.refused(["say x fact", "back x y", "say y fact"], 1)
        self.refused(["person ann 1", "say x fact zoe ann", "say y fact"], 1)

    def test_a_goal_may_be_a_strike_of_any_row_that_is_so_written(self):
        ahead = ["say x fact", "say y fact", "strike s x g"]
        self.assertEqual(weave_of("\n".join(ahead + ["strike g y s"])).strikes, [("s", "x", "g"), ("g", "y", "s")])
        for later in (["strike g zoe x"], ["strike g x zoe"], ["strike g g g"], ["strike h x x", "strike g x zoe"],
                      ["back x y", "strike g x x"], ["back x y", "person zoe 1", "strike g x x"], ["", "strike g x x"],
                      ["say z fact", "strike g x x"], ["nothing", "strike g x x"], ["back x x", "strike g x x"]):
            number = 3 + next(at for at, row in enumerate(later) if not row.startswith(("strike h", "back x y")))
            self.refused(ahead + later, number)
        for later in ([], ["strike g"], ["strike g x"], ["strike g x x x"], ["strike G x x"], [" strike g x x"],
                      ["strike g x x "], ["strike g  x x"], ["strike g X x"], ["strike g x X"], ["say g fact"],
                      ["person g 1"], ["back g x"], ["back x y"], ["strike h g g"]):
            self.refused(ahead + later, 2)

    def test_two_strikes_of_one_name(self):
        self.refused(["say x fact", "strike s x g", "strike g x x", "strike g x s"], 3)

    def test_two_faults(self):
        wrong = {0: "person ann 1 1", 3: "say rain fact", 6: "strike x zoe dry", 9: "back ann", 10: "back rain ann"}
        for one, other in itertools.combinations(sorted(wrong), 2):
            rows = list(ROWS)
            rows.insert(other, wrong[other])
            rows.insert(one, wrong[one])
            self.refused(rows, one)

    def test_drawn_texts_with_one_row_otherwise(self):
        source = random.Random(193)
        refused = 0
        for parts in looms.drawn_weaves(194, 150, (3, 4, 4, 4)):
            rows = row_texts(parts)
            for step in range(12):
                other = self.spoilt(source, rows)
                number = first_wrong(other)
                if number is None:
                    self.assertEqual(text_of(weave_of("\n".join(other))), "\n".join(other))
                else:
                    self.refused(other, number)
                    refused += 1
        self.assertGreater(refused, 500)

    def spoilt(self, source, rows):
        """These rows with a row or a word left out, put in, exchanged, or taken from another row."""
        rows = list(rows) or ["say a fact"]
        at, to = source.randrange(len(rows)), source.randrange(len(rows))
        words = rows[at].split(" ")
        choice = source.randrange(6)
        if choice == 0 and len(rows) > 1:
            del rows[at]
        elif choice == 1:
            rows[at], rows[to] = rows[to], rows[at]
        elif choice == 2:
            rows.insert(at, rows[to])
        elif choice == 3:
            words[source.randrange(len(words))] = source.choice(rows[to].split(" "))
            rows[at] = " ".join(words)
        elif choice == 4:
            del words[source.randrange(len(words))]
            rows[at] = " ".join(words) or "x"
        else:
            words.insert(source.randrange(len(words) + 1), source.choice(rows[to].split(" ")))
            rows[at] = " ".join(words)
        return rows


def is_written(words):
    """Whether a row of these words is written by the words of [23]."""
    word, *rest = words
    names = [is_name(one) for one in rest]
    if word == "person":
        return len(rest) == 2 and names[0] and rest[1] in list("0123456789")
    if word == "say":
        return len(rest) >= 2 and rest[1] in ("fact", "claim") and all(names)
    return len(rest) == {"strike": 3, "back": 2}.get(word) and all(names)


def is_name(word):
    return 1 <= len(word) <= 8 and all("a" <= sign <= "z" for sign in word)


def first_wrong(rows):
    """The number of the first row that is refused by the words of [23]; None where none is."""
    rows = [row.split(" ") for row in rows]
    goals = [words[1] for words in rows if is_written(words) and words[0] == "strike"]
    people, said, struck, backs, sorts = [], [], [], [], ["person", "say", "strike", "back"]
    for number, words in enumerate(rows):
        if not is_written(words) or words[0] not in sorts:
            return number
        del sorts[:sorts.index(words[0])]
        word, name, *rest = words
        if word == "person":
            right = name not in people
            people.append(name)
        elif word == "say":
            right = name not in said and len(set(rest[1:])) == len(rest[1:]) and all(one in people for one in rest[1:])
            said.append(name)
        elif word == "strike":
            right = name not in said + struck and rest[0] in said and rest[1] in said + goals
            struck.append(name)
        else:
            right = name in said and rest[0] in said and name != rest[0] and (name, rest[0]) not in backs
            backs.append((name, rest[0]))
        if not right:
            return number
    return None


if __name__ == "__main__":
    unittest.main()
