"""What the tests of papers need: trees looked at by the document's words, and things that are none."""

import random

import plain


def nest(depth, make):
    """A thing so many deep."""
    thing = "a"
    for step in range(depth):
        thing = make(thing)
    return thing


DEEP_LIST = nest(39, lambda thing: [thing])
DEEP_TUPLE = nest(39, lambda thing: (thing,))
DEEP_ANSWER = nest(19, lambda thing: ("answer", "a", "b", (thing,)))

THINGS = [
    None, True, False, 0, 1, -1, 2, 10 ** 30, "", "a", "zz", "clash", [], (), ["a"], ("a",), [[]], ((),),
    ("clash",), ("clash", "a", "a"), ["clash", "a", "a"], ("answer", "a", "a", ()), ("beyond", 0, ()),
    ("cover", "a", ()), DEEP_LIST, DEEP_TUPLE, DEEP_ANSWER,
]


def same_kind(one, other):
    """Whether these are the same, True and 1 and the like not being so."""
    return type(one) is type(other) and one == other


def is_tree(names, strikes, sets, words, held, tree):
    """Whether this is a tree by the words of [10], written apart from the program."""
    if type(tree) is not tuple or not tree or type(tree[0]) is not str or tree[0] not in words:
        return False
    word, *rest = tree
    if word == "clash":
        return len(rest) == 2 and rest[0] in held and rest[1] in held and (rest[0], rest[1]) in strikes
    if len(rest) != (3 if word == "answer" else 2) or type(rest[-1]) is not tuple:
        return False
    if word == "answer":
        a, b, trees = rest
        if a not in held or (b, a) not in strikes or any((one, b) in strikes for one in held):
            return False
        more = [name for name in sorted(names) if (name, b) in strikes]
    elif word == "beyond":
        k, trees = rest
        if type(k) is not int or k < 0 or k >= len(sets) or not set(held) <= set(sets[k]):
            return False
        more = [name for name in sorted(names) if name not in sets[k]]
    else:
        a, trees = rest
        if a not in list(names) or a in held or any((one, a) in strikes for one in held):
            return False
        more = [name for name in sorted(names) if name == a or (name, a) in strikes]
    return len(trees) == len(more) and all(
        is_tree(names, strikes, sets, words, held + [name], one) for name, one in zip(more, trees))


def shows_none(names, strikes, some, tree):
    return is_tree(names, strikes, [], ("clash", "answer"), list(some), tree)


def are_sets(names, sets):
    return type(sets) in (list, tuple) and all(is_set(names, one) for one in sets)


def is_set(names, thing):
    if type(thing) not in (list, tuple) or not all(type(one) is str and one in names for one in thing):
        return False
    return len(set(thing)) == len(thing)


def shows_greatest(names, strikes, sets, tree):
    if not are_sets(names, sets) or not all(plain.standing(strikes, some) for some in sets):
        return False
    for at, some in enumerate(sets):
        for to, other in enumerate(sets):
            if at != to and set(some) <= set(other):
                return False
    return is_tree(names, strikes, sets, ("clash", "answer", "beyond"), [], tree)


def shows_outright(names, strikes, sets, tree):
    if not are_sets(names, sets) or not all(plain.outright(names, strikes, some) for some in sets):
        return False
    if any(set(some) == set(other) for at, some in enumerate(sets) for other in sets[:at]):
        return False
    return is_tree(names, strikes, sets, ("clash", "cover", "beyond"), [], tree)


def drawn_tree(source, names, strikes, sets, words, held):
    """A tree that is so by the document's words, its nodes drawn from all that are right; None where none is."""
    heads = []
    for a in names:
        if "clash" in words:
            heads += [("clash", a, b) for b in names if a in held and b in held and (a, b) in strikes]
        if "answer" in words and a in held:
            heads += [("answer", a, b) for b in names
                      if (b, a) in strikes and not any((one, b) in strikes for one in held)]
        if "cover" in words and a not in held and not any((one, a) in strikes for one in held):
            heads.append(("cover", a))
    if "beyond" in words:
        heads += [("beyond", k) for k, some in enumerate(sets) if set(held) <= set(some)]
    source.shuffle(heads)
    for head in heads:
        if head[0] == "clash":
            return head
        if head[0] == "answer":
            more = [name for name in sorted(names) if (name, head[2]) in strikes]
        elif head[0] == "beyond":
            more = [name for name in sorted(names) if name not in sets[head[1]]]
        else:
            more = [name for name in sorted(names) if name == head[1] or (name, head[1]) in strikes]
        trees = [drawn_tree(source, names, strikes, sets, words, held + [name]) for name in more]
        if None not in trees:
            return head + (tuple(trees),)
    return None


def node_otherwise(names, node):
    """This node with one thing otherwise, in many ways; what lies below it stays."""
    yield list(node)
    yield node + (None,)
    yield node + (node[-1],)
    yield node[:-1]
    yield node[1:]
    yield ()
    yield (node,)
    for word in ("clash", "answer", "beyond", "cover", "", "Clash", None, 0, ("clash",)):
        yield (word,) + node[1:]
    for at in range(1, len(node)):
        for thing in THINGS + list(names):
            yield node[:at] + (thing,) + node[at + 1:]
    if node[0] in ("clash", "answer"):
        yield (node[0], node[2], node[1]) + node[3:]
    if node[0] == "beyond":
        for number in (node[1] - 1, node[1] + 1, -1 - node[1], bool(node[1]), str(node[1]), [node[1]]):
            yield (node[0], number, node[2])
    if node[0] != "clash":
        for trees in trees_otherwise(names, node[-1]):
            yield node[:-1] + (trees,)


def trees_otherwise(names, trees):
    """A node's tuple of trees with one left out, one more, two exchanged, as a list."""
    yield list(trees)
    yield trees + (("clash", names[0], names[0]),)
    for at in range(len(trees)):
        yield trees[:at] + trees[at + 1:]
        yield trees[:at] + trees[at:at + 1] + trees[at:]
        if at:
            yield trees[:at - 1] + (trees[at], trees[at - 1]) + trees[at + 1:]


def tree_otherwise(names, tree):
    """All trees that have one thing otherwise at one node, and those with one node exchanged for something else."""
    yield from THINGS
    yield from node_otherwise(names, tree)
    if tree[0] != "clash":
        for at, below in enumerate(tree[-1]):
            for other in tree_otherwise(names, below):
                yield tree[:-1] + (tree[-1][:at] + (other,) + tree[-1][at + 1:],)


def list_otherwise(things, others):
    """A list with one left out, twice, exchanged, out of order, or of others."""
    yield tuple(things)
    yield things[::-1]
    yield things + [None]
    yield from THINGS
    for at, one in enumerate(things):
        yield things[:at] + things[at + 1:]
        yield things[:at] + [one] + things[at:]
        yield things + [one]
        yield things[1:at + 1] + things[:1] + things[at + 1:]
        for other in others(one):
            yield things[:at] + [other] + things[at + 1:]


def pair_otherwise(names, pair, others):
    yield from THINGS
    yield list(pair)
    yield pair[:1]
    yield pair + (None,)
    yield pair[::-1]
    for thing in THINGS + list(names):
        yield (thing, pair[1])
        yield (pair[0], thing)
    for other in others(pair[1]):
        yield (pair[0], other)


def drawn(seed, things, most):
    """At most so many of these things, the same ones in each run."""
    things = list(things)
    return things if len(things) <= most else random.Random(seed).sample(things, most)


def shows_granted(names, strikes, some, paper):
    """[14] by its words."""
    if not is_set(names, some) or not plain.standing(strikes, some):
        return False
    if type(paper) is not tuple or len(paper) != 2:
        return False
    trees, drops = paper
    return are_none_trees(names, strikes, some, trees) and are_drops(names, strikes, some, drops)


def are_pairs(things):
    return type(things) in (list, tuple) and all(type(one) is tuple and len(one) == 2 for one in things)


def are_none_trees(names, strikes, some, trees):
    against = sorted({one for one, other in strikes if other in some})
    if not are_pairs(trees) or [name for name, tree in trees] != against:
        return False
    return all(shows_none(names, strikes, [name], tree) for name, tree in trees)


def are_drops(names, strikes, some, drops):
    if not are_pairs(drops) or not all(type(name) is str for name, why in drops):
        return False
    if sorted(name for name, why in drops) != sorted(set(names) - set(some)):
        return False
    ahead = []
    for name, why in drops:
        if type(why) is not tuple or len(why) != 2 or not is_why(names, strikes, name, why, ahead):
            return False
        ahead.append(name)
    return True


def is_why(names, strikes, name, why, ahead):
    word, thing = why
    if word == "struck":
        return (is_set(names, thing) and plain.standing(strikes, thing)
                and any((one, name) in strikes for one in thing))
    if word == "never":
        return shows_none(names, strikes, [name], thing)
    if word == "bare":
        return (thing, name) in strikes and all(one in ahead for one, other in strikes if other == thing)
    return False


def granted_set(names, strikes):
    """The greatest standing set of which no name is struck by a standing set, all sets gone through."""
    standing = plain.all_standing(names, strikes)
    struck = {other for one, other in strikes if any(one in some for some in standing)}
    fit = [some for some in standing if not set(some) & struck]
    greatest = max(fit, key=len)
    assert all(set(some) <= set(greatest) for some in fit)
    return greatest


def shows_won(names, strikes, name, kind, told):
    """[16] by its words."""
    if type(told) is not tuple or len(told) != 2 or told[0] not in ("asker", "doubter"):
        return False
    who, plan = told
    if kind == "some" and who == "asker":
        return is_set(names, plan) and name in plan and plain.standing(strikes, plan)
    if kind == "some":
        return shows_none(names, strikes, [name], plan)
    size = 3 if who == "asker" else 2
    if type(plan) not in (list, tuple) or not all(type(row) is tuple and len(row) == size for row in plan):
        return False
    if not is_set(names, [row[0] for row in plan]) or name not in [row[0] for row in plan]:
        return False
    return (are_answer_rows if who == "asker" else are_doubt_rows)(strikes, plan)


def are_answer_rows(strikes, plan):
    numbers = {name: number for name, number, answers in plan}
    for name, number, answers in plan:
        if type(number) is not int or type(answers) is not tuple:
            return False
        if not all(type(pair) is tuple and len(pair) == 2 for pair in answers):
            return False
        if [pair[0] for pair in answers] != sorted(one for one, other in strikes if other == name):
            return False
    for name, number, answers in plan:
        for doubt, answer in answers:
            if (answer, doubt) not in strikes or answer not in numbers or numbers[answer] >= number:
                return False
    return True


def are_doubt_rows(strikes, plan):
    doubted = {name for name, doubt in plan}
    return all((doubt, name) in strikes and all(one in doubted for one, other in strikes if other == doubt)
               for name, doubt in plan)


def is_few_tree(names, strikes, number, held, barred, tree):
    """A tree of [21] by its words."""
    if type(tree) is not tuple:
        return False
    if len(tree) == 1 and same_kind(tree[0], "dear"):
        return few_cost(strikes, held, barred) >= number
    if len(tree) != 4 or not same_kind(tree[0], "name") or type(tree[1]) is not str or tree[1] not in names:
        return False
    word, x, first, second = tree
    return (x not in held and x not in barred and is_few_tree(names, strikes, number, held + [x], barred, first)
            and is_few_tree(names, strikes, number, held, barred + [x], second))


def few_cost(strikes, held, barred):
    between = sum(one in held and other in held for one, other in strikes)
    by_barred = 0
    for name in barred:
        if all(one in barred for one, other in strikes if other == name):
            by_barred += sum(one == name and other in held for one, other in strikes)
    return between + by_barred


def shows_fewest(names, strikes, name, told):
    """[22] by its words."""
    if type(told) is not tuple or len(told) != 4:
        return False
    number, gone, some, tree = told
    if type(number) is not int or number < 0 or type(gone) not in (list, tuple) or len(gone) != number:
        return False
    if not all(type(pair) is tuple and pair in strikes for pair in gone):
        return False
    if not all(one < other for one, other in zip(gone, gone[1:])):
        return False
    left = [pair for pair in strikes if pair not in gone]
    return (is_set(names, some) and name in some and plain.standing(left, some)
            and is_few_tree(names, strikes, number, [name], [], tree))


def drawn_few_tree(source, names, strikes, number, held, barred):
    """A tree of [21] that is so, its nodes drawn; None where there is none."""
    left = [name for name in names if name not in held and name not in barred]
    if few_cost(strikes, held, barred) >= number and (not left or source.random() < 0.7):
        return ("dear",)
    if not left:
        return None
    x = source.choice(left)
    trees = [drawn_few_tree(source, names, strikes, number, held + [x], barred),
             drawn_few_tree(source, names, strikes, number, held, barred + [x])]
    return None if None in trees else ("name", x, *trees)


def few_tree_otherwise(names, tree):
    """All trees of [21] with one thing otherwise at one node."""
    yield from THINGS
    yield list(tree)
    yield ()
    yield (tree,)
    yield tree + (None,)
    yield tree[:-1]
    yield ("dear",)
    yield ("dear", "dear")
    yield ["dear"]
    yield "dear"
    for x in list(names) + ["zz", None, True, ["a"]]:
        yield ("name", x, tree, tree)
        yield ("name", x, ("dear",), ("dear",))
    for word in ("dear", "name", "", "Dear", None, 0, ("dear",)):
        yield (word,) + tree[1:]
    if tree[0] == "name":
        word, x, first, second = tree
        yield (word, x, second, first)
        yield (word, x, first)
        yield (word, x, (first, second))
        yield (word, x, [first], second)
        yield first
        yield second
        for other in list(names) + THINGS:
            yield (word, other, first, second)
        for other in few_tree_otherwise(names, first):
            yield (word, x, other, second)
        for other in few_tree_otherwise(names, second):
            yield (word, x, first, other)
