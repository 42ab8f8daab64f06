"""Whether a tree shows that there is none, or no other: a look at the strikes alone, without any search."""

from strikeweave.kinds import is_listed, is_number, is_row_of, is_set_of
from strikeweave.sets import is_outright, stands

LENGTHS = {"clash": 3, "answer": 4, "beyond": 3, "cover": 3}


class Look:
    """What a tree is looked at by: the strikes, the told sets, and the words with which its nodes may begin."""

    def __init__(self, web, sets, sorts):
        self.names = web.all_names()
        self.strikers_by_name = {name: web.strikers(name) for name in self.names}
        self.sets = sets
        self.sorts = sorts


def shows_none(web, some, tree):
    """Whether tree is one of clash and answer, at first some being held."""
    return is_tree(Look(web, [], ("clash", "answer")), list(some), tree)


def shows_greatest(web, sets, tree):
    """Whether the sets stand, none within another one, and tree shows that each standing set is within one of them."""
    if not are_sets(web, sets) or not all([stands(web, some) for some in sets]) or one_within_another(sets):
        return False
    return is_tree(Look(web, sets, ("clash", "answer", "beyond")), [], tree)


def shows_outright(web, sets, tree):
    """Whether the sets are outright and unlike, and tree shows that there are no others."""
    if not are_sets(web, sets) or not all([is_outright(web, some) for some in sets]) or two_alike(sets):
        return False
    return is_tree(Look(web, sets, ("clash", "cover", "beyond")), [], tree)


def are_sets(web, sets):
    return is_listed(sets) and all([is_set_of(web, some) for some in sets])


def one_within_another(sets):
    return any([has_all(other, some) for at, some in enumerate(sets) for to, other in enumerate(sets) if at != to])


def two_alike(sets):
    return len({tuple(sorted(some)) for some in sets}) != len(sets)


def has_all(some, names):
    return all([name in some for name in names])


def is_tree(look, held, tree):
    """Whether this is a tree by the document's words, these names being held at its first node."""
    if not is_node(look, tree):
        return False
    if tree[0] == "clash":
        return is_clash(look, held, tree[1], tree[2])
    added = added_at(look, held, tree)
    trees = tree[-1]
    if added is None or not is_row_of(trees, len(added)):
        return False
    return all_trees(look, held, added, trees)


def is_node(look, tree):
    """Whether this is a tuple that begins like a node, and is as long as one."""
    if not isinstance(tree, tuple) or not tree or tree[0] not in look.sorts:
        return False
    return len(tree) == LENGTHS[tree[0]]


def is_clash(look, held, one, other):
    return one in held and other in held and one in look.strikers_by_name[other]


def added_at(look, held, node):
    """The rising names of which each is held, too, at one tree of this node; None where the node is wrong."""
    if node[0] == "answer":
        return added_at_answer(look, held, node[1], node[2])
    if node[0] == "beyond":
        return added_at_beyond(look, held, node[1])
    return added_at_cover(look, held, node[1])


def added_at_answer(look, held, one, striker):
    if one not in held or striker not in look.strikers_by_name[one]:
        return None
    answers = look.strikers_by_name[striker]
    if any([name in held for name in answers]):
        return None
    return answers


def added_at_beyond(look, held, number):
    if not is_number(number) or not 0 <= number < len(look.sets) or not has_all(look.sets[number], held):
        return None
    return [name for name in look.names if name not in look.sets[number]]


def added_at_cover(look, held, one):
    if one not in look.names or one in held:
        return None
    strikers = look.strikers_by_name[one]
    if any([name in held for name in strikers]):
        return None
    return sorted(set(strikers + [one]))


def all_trees(look, held, added, trees):
    # A loop, not a list of answers: the first tree that is wrong ends it.
    for name, tree in zip(added, trees):
        if not is_tree(look, held + [name], tree):
            return False
    return True
