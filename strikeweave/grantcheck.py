"""Whether a paper shows what is granted: a look at the strikes alone, without any search."""

from strikeweave.kinds import is_listed, is_row_of, is_set_of
from strikeweave.sets import stands, strikers_of_any, struck_by_any
from strikeweave.treecheck import shows_none


def shows_granted(web, some, paper):
    """Whether some stands and the paper shows that it is the greatest set of which no standing set strikes a name."""
    if not is_standing_set(web, some) or not is_row_of(paper, 2):
        return False
    return are_trees(web, strikers_of_any(web, some), paper[0]) and are_drops(web, some, paper[1])


def is_standing_set(web, some):
    return is_set_of(web, some) and stands(web, some)


def are_trees(web, names, trees):
    """Whether these are pairs (name, tree), one for each of the names, in their order."""
    if not is_listed(trees) or len(trees) != len(names):
        return False
    return all([is_tree_of(web, name, pair) for name, pair in zip(names, trees)])


def is_tree_of(web, name, pair):
    return is_row_of(pair, 2) and pair[0] == name and shows_none(web, [name], pair[1])


def are_drops(web, some, drops):
    """Whether these are pairs (name, why), one for each name that isn't in some, in an order that is right."""
    outside = [name for name in web.all_names() if name not in some]
    if not is_listed(drops) or not all([is_row_of(drop, 2) and drop[0] in outside for drop in drops]):
        return False
    dropped = [name for name, why in drops]
    if sorted(dropped) != outside:
        return False
    return all([is_why(web, name, why, dropped[:at]) for at, (name, why) in enumerate(drops)])


def is_why(web, name, why, ahead):
    """Whether the name isn't granted for this, the names that are ahead not being so."""
    if not is_row_of(why, 2):
        return False
    if why[0] == "struck":
        return is_standing_set(web, why[1]) and name in struck_by_any(web, why[1])
    if why[0] == "never":
        return shows_none(web, [name], why[1])
    return why[0] == "bare" and is_bare(web, name, why[1], ahead)


def is_bare(web, name, striker, ahead):
    return striker in web.strikers(name) and all([one in ahead for one in web.strikers(striker)])
