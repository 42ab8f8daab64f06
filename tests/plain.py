"""What several tests need: small webs, and the document's words reckoned plainly from the strikes alone."""

import itertools
import random


def subsets(things):
    """All sets of these things, as tuples in their order."""
    things = list(things)
    return [some for size in range(len(things) + 1) for some in itertools.combinations(things, size)]


def all_small_webs():
    """All webs of up to three names, as (names, strikes)."""
    for many in range(4):
        names = ["a", "b", "c"][:many]
        for strikes in subsets(itertools.product(names, names)):
            yield names, list(strikes)


def some_webs(seed, count, most_names):
    """Webs of four names and more, the same ones in each run, as (names, strikes), unsorted."""
    source = random.Random(seed)
    for step in range(count):
        names = [first + second for first in "cab" for second in "fbeadc"]
        source.shuffle(names)
        names = names[:source.randint(4, most_names)]
        pairs = list(itertools.product(names, names))
        strikes = source.sample(pairs, source.randint(0, min(len(pairs), 2 * len(names))))
        yield names, strikes


def shuffled(seed, things):
    """These things in another order, the same one in each run."""
    things = list(things)
    random.Random(seed).shuffle(things)
    return things


def great_web():
    """30 names and 150 strikes, unsorted, as (names, strikes)."""
    names = [first + "x" * size for first in "qmzacf" for size in (0, 3, 1, 7, 5)]
    strikes = [(names[k], names[(7 * k + 11 * step + 3) % 30]) for k in range(30) for step in range(5)]
    assert len(set(names)) == 30 and len(set(strikes)) == 150
    return names, strikes


def row_web(many):
    """Names each of which strikes the next one, as (names, strikes)."""
    letters = "abcdefghijklmnopqrstuvwxyz"
    names = [letters[k // 26] + letters[k % 26] for k in range(many)]
    return names, list(zip(names, names[1:]))


def leads(names, strikes):
    """All pairs (one, other) such that a row of at least one strike leads from one to other."""
    found = set(strikes)
    for mid in names:
        for one in names:
            for other in names:
                if (one, mid) in found and (mid, other) in found:
                    found.add((one, other))
    return found


def quiet(strikes, some):
    return not any(one in some and other in some for one, other in strikes)


def answered(strikes, some):
    return all(any((mine, one) in strikes for mine in some) for one, other in strikes if other in some)


def kept(names, strikes, some):
    return sorted(
        name for name in names
        if all(any((mine, one) in strikes for mine in some) for one, other in strikes if other == name))


def standing(strikes, some):
    return quiet(strikes, some) and answered(strikes, some)


def whole(names, strikes, some):
    return standing(strikes, some) and kept(names, strikes, some) == sorted(some)


def outright(names, strikes, some):
    outside = [name for name in names if name not in some]
    return quiet(strikes, some) and all(any((mine, name) in strikes for mine in some) for name in outside)


def telling(names, strikes, word):
    """Whether the words, a dict, are such that in and out go by the strikers' words."""
    for name in names:
        against = [word[one] for one, other in strikes if other == name]
        if (word[name] == "in") != (against.count("out") == len(against)):
            return False
        if (word[name] == "out") != (against.count("in") > 0):
            return False
    return True


def sets_that(names, fits):
    """The rising list of all sets, rising lists, of which fits is so."""
    return sorted(list(some) for some in subsets(sorted(names)) if fits(list(some)))


def all_standing(names, strikes):
    return sets_that(names, lambda some: standing(strikes, some))


def all_whole(names, strikes):
    return sets_that(names, lambda some: whole(names, strikes, some))


def all_outright(names, strikes):
    return sets_that(names, lambda some: outright(names, strikes, some))


def all_greatest(names, strikes):
    found = all_standing(names, strikes)
    return [some for some in found if not any(set(some) < set(other) for other in found)]


def round_rows(names, strikes):
    """The rows of all rounds, by the document's words."""
    word, rows, number = {}, [], 0
    while True:
        number += 1
        ins = [n for n in sorted(names) if n not in word
               and all(word.get(one) == "out" for one, other in strikes if other == n)]
        for name in ins:
            word[name] = "in"
        outs = [n for n in sorted(names) if n not in word
                and any(word.get(one) == "in" for one, other in strikes if other == n)]
        for name in outs:
            word[name] = "out"
        if not ins and not outs:
            return rows + [(n, "open", None) for n in sorted(names) if n not in word]
        rows += [(n, "in", number) for n in ins] + [(n, "out", number) for n in outs]


def least_set(names, strikes):
    """The least whole set: what is kept by the empty set, then by that, and so on."""
    some = []
    while kept(names, strikes, some) != some:
        some = kept(names, strikes, some)
    return some


def ring_web(many):
    """Names that strike one another in a ring, as (names, strikes)."""
    names, strikes = row_web(many)
    return names, strikes + [(names[-1], names[0])]


def cliques(sizes):
    """For each size so many names that all strike one another, as (names, strikes)."""
    names, strikes = [], []
    for first, size in zip("abcdefghijklmnopqrst", sizes):
        some = [first + second for second in "abcdefghij"[:size]]
        names += some
        strikes += itertools.permutations(some, 2)
    return names, strikes


def pairs_of(text):
    """The strikes that are written as words of two letters each."""
    return [(word[0], word[1]) for word in text.split()]


def drawn_web(source, many):
    """A web of so many names with few, some or many strikes, as (names, strikes)."""
    names = list("abcdefghijklmnopqrstuvwxyz"[:many])
    share = source.choice((0.06, 0.12, 0.2, 0.35))
    strikes = [pair for pair in itertools.product(names, names) if source.random() < share]
    if source.random() < 0.4:
        strikes = [(one, other) for one, other in strikes if one != other]
    if source.random() < 0.4:
        strikes = sorted(set(strikes) | {(other, one) for one, other in strikes if source.random() < 0.6})
    return names, strikes


def drawn_webs(seed, count, least_names, most_names):
    """Webs of the sorts above, the same ones in each run."""
    source = random.Random(seed)
    return [drawn_web(source, source.randint(least_names, most_names)) for step in range(count)]


def told_lists(thing):
    """All lists within a told thing, itself too."""
    found = [thing] if isinstance(thing, list) else []
    if isinstance(thing, (list, tuple)):
        for one in thing:
            found += told_lists(one)
    return found


def spoil(thing):
    """Changes each list within a told thing."""
    for one in told_lists(thing):
        one.reverse()
        one.append("x")


def to_go(strikes, some):
    """The strikes that must go that a set stands, by the words of [22]."""
    between = [(one, other) for one, other in strikes if one in some and other in some]
    unanswered = [(one, other) for one, other in strikes if other in some and one not in some
                  and not any((mine, one) in strikes for mine in some)]
    return sorted(between + unanswered)


def least_cost(names, strikes, name):
    """The least number of strikes that must go that a set with this name stands, all sets gone through."""
    return min(len(to_go(strikes, some)) for some in subsets(names) if name in some)
