"""Whether a tuple shows the fewest strikes: a look at the strikes alone, without any search."""

from strikeweave.kinds import is_listed, is_number, is_row_of, is_set_of
from strikeweave.sets import stands
from strikeweave.webs import Web


def shows_fewest(web, name, told):
    """Whether told is a tuple as fewest tells it: a number, so many strikes, a set, and a tree."""
    web.check_has(name)
    if not is_row_of(told, 4):
        return False
    number, strikes, some, tree = told
    if not is_number(number) or not are_strikes(web, strikes) or len(strikes) != number:
        return False
    if not is_set_of(web, some) or name not in some or not stands(without_strikes(web, strikes), some):
        return False
    return is_tree(web, number, [name], [], tree)


def are_strikes(web, thing):
    """Whether this is a rising list of unlike strikes of the web."""
    known = web.all_strikes()
    # Only what is surely a strike, and so a pair of texts, may become a set's member.
    return is_listed(thing) and all([one in known for one in thing]) and sorted(set(thing)) == list(thing)


def without_strikes(web, strikes):
    return Web(web.all_names(), [strike for strike in web.all_strikes() if strike not in strikes])


def is_tree(web, number, held, barred, tree):
    """Whether this is a tree by the document's words, these names being held and barred at its first node."""
    if is_row_of(tree, 1):
        return tree[0] == "dear" and sure_cost(web, held, barred) >= number
    if not is_row_of(tree, 4) or tree[0] != "name":
        return False
    name = tree[1]
    if name not in web.all_names() or name in held or name in barred:
        return False
    return is_tree(web, number, held + [name], barred, tree[2]) and is_tree(web, number, held, barred + [name], tree[3])


def sure_cost(web, held, barred):
    """How many strikes are between held names, or at them by barred names all of whose strikers are barred."""
    bare = [name for name in barred if all([one in barred for one in web.strikers(name)])]
    return len([other for one, other in web.all_strikes() if other in held and (one in held or one in bare)])
