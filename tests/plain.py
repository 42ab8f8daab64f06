"""What several tests need: small webs, and the document's words reckoned plainly from the strikes alone."""

import itertools
import random


def subsets(things):
    """All sets of these things, as tuples in their order."""
    things = list(things)
    return [some for size in range(len(things) + 1) for some in itertools.combinations(things, size)]


def all_small_webs():
    """All webs of up to three names, as (names, strikes)."""
    for many in range(4):
        names = ["a", "b", "c"][:many]
        for strikes in subsets(itertools.product(names, names)):
            yield names, list(strikes)


def some_webs(seed, count, most_names):
    """Webs of four names and more, the same ones in each run, as (names, strikes), unsorted."""
    source = random.Random(seed)
    for step in range(count):
        names = [first + second for first in "cab" for second in "fbeadc"]
        source.shuffle(names)
        names = names[:source.randint(4, most_names)]
        pairs = list(itertools.product(names, names))
        strikes = source.sample(pairs, source.randint(0, min(len(pairs), 2 * len(names))))
        yield names, strikes


def shuffled(seed, things):
    """These things in another order, the same one in each run."""
    things = list(things)
    random.Random(seed).shuffle(things)
    return things


def great_web():
    """30 names and 150 strikes, unsorted, as (names, strikes)."""
    names = [first + "x" * size for first in "qmzacf" for size in (0, 3, 1, 7, 5)]
    strikes = [(names[k], names[(7 * k + 11 * step + 3) % 30]) for k in range(30) for step in range(5)]
    assert len(set(names)) == 30 and len(set(strikes)) == 150
    return names, strikes


def row_web(many):
    """Names each of which strikes the next one, as (names, strikes)."""
    letters = "abcdefghijklmnopqrstuvwxyz"
    names = [letters[k // 26] + letters[k % 26] for k in range(many)]
    return names, list(zip(names, names[1:]))


def leads(names, strikes):
    """All pairs (one, other) such that a row of at least one strike leads from one to other."""
    found = set(strikes)
    for mid in names:
        for one in names:
            for other in names:
                if (one, mid) in found and (mid, other) in found:
                    found.add((one, other))
    return found


def quiet(strikes, some):
    return not any(one in some and other in some for one, other in strikes)


def answered(strikes, some):
    return all(any((mine, one) in strikes for mine in some) for one, other in strikes if other in some)


def kept(names, strikes, some):
    return sorted(
        name for name in names
        if all(any((mine, one) in strikes for mine in some) for one, other in strikes if other == name))


def standing(strikes, some):
    return quiet(strikes, some) and answered(strikes, some)


def whole(names, strikes, some):
    return standing(strikes, some) and kept(names, strikes, some) == sorted(some)


def outright(names, strikes, some):
    outside = [name for name in names if name not in some]
    return quiet(strikes, some) and all(any((mine, name) in strikes for mine in some) for name in outside)


def telling(names, strikes, word):
    """Whether the words, a dict, are such that in and out go by the strikers' words."""
    for name in names:
        against = [word[one] for one, other in strikes if other == name]
        if (word[name] == "in") != (against.count("out") == len(against)):
            return False
        if (word[name] == "out") != (against.count("in") > 0):
            return False
    return True
