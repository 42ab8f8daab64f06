"""Standing sets that have given names, and trees: papers of none and of no others."""

from strikeweave.lists import Marks, first_bit, greatest_sets, outright_sets


def standing_with(web, some):
    """("told", set), a standing set that has all of some; or ("none", tree), which shows that there is none."""
    marks = Marks(web)
    held = marks.set_of(some)
    found = standing_from(marks, held)
    if found is not None:
        return ("told", marks.names_in(found))
    return ("none", tree_at(marks, standing_splits, [], held, {}))


def greatest_with(web):
    """A pair: what greatest_sets tells, and a tree which shows that each standing set is within one of them."""
    sets = greatest_sets(web)
    return (sets, tree_beside(web, standing_splits, sets))


def outright_with(web):
    """A pair: what outright_sets tells, and a tree which shows that there are no others."""
    sets = outright_sets(web)
    return (sets, tree_beside(web, outright_splits, sets))


def tree_beside(web, splits_at, sets):
    marks = Marks(web)
    return tree_at(marks, splits_at, [marks.set_of(some) for some in sets], 0, {})


def standing_from(marks, held):
    """A standing set that has the held names; None where there is none."""
    if clash_at(marks, held) is not None:
        return None
    splits = answers_at(marks, held)
    if not splits:
        return held
    for bit in marks.bits_in(best_split(marks, held, splits)[1]):
        found = standing_from(marks, held | bit)
        if found is not None:
            return found
    return None


def tree_at(marks, splits_at, sets, held, known):
    """The tree at which these names are held; known keeps the trees of what was held ahead, as it often is again."""
    if held not in known:
        known[held] = clash_at(marks, held)
    if known[held] is None:
        head, added = best_split(marks, held, splits_at(marks, sets, held))
        trees = [tree_at(marks, splits_at, sets, held | bit, known) for bit in marks.bits_in(added)]
        known[held] = head + (tuple(trees),)
    return known[held]


def clash_at(marks, held):
    """A node of clash; None where the held names are quiet."""
    hit = held & marks.struck_by(held)
    if not hit:
        return None
    return ("clash", marks.first_name(marks.strikers_at(first_bit(hit)) & held), marks.first_name(hit))


def standing_splits(marks, sets, held):
    return answers_at(marks, held) + beyonds_at(marks, sets, held)


def outright_splits(marks, sets, held):
    # Where nothing is left to cover the held names are an outright set themselves.
    return covers_at(marks, held) or beyonds_at(marks, sets, held)


def best_split(marks, held, splits):
    """The one of these with the fewest trees that don't end at once."""
    return min(splits, key=lambda split: split_cost(marks, held, split[1]))


def split_cost(marks, held, added):
    clashing = marks.loops | marks.struck_by(held) | marks.strikers_at(held)
    many = len(marks.bits_in(added))
    return (many - len(marks.bits_in(added & clashing)), many)


def answers_at(marks, held):
    """Pairs: the beginning of a node of answer, and the set of the names that are held, too, at its trees."""
    splits = []
    for doubt in marks.bits_in(marks.strikers_at(held) & marks.unstruck_by(held)):
        doubted = marks.first_name(marks.struck_by(doubt) & held)
        splits.append((("answer", doubted, marks.first_name(doubt)), marks.strikers_at(doubt)))
    return splits


def beyonds_at(marks, sets, held):
    """The same for nodes of beyond."""
    return [(("beyond", at), marks.full ^ some) for at, some in enumerate(sets) if held & some == held]


def covers_at(marks, held):
    """The same for nodes of cover."""
    uncovered = marks.unstruck_by(held) & (marks.full ^ held)
    return [(("cover", marks.first_name(bit)), bit | marks.strikers_at(bit)) for bit in marks.bits_in(uncovered)]
