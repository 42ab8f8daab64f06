"""Whether a plan shows who wins a dispute: a look at the strikes alone, without any search."""

from strikeweave.kinds import is_listed, is_number, is_row_of, is_set_of
from strikeweave.sets import stands
from strikeweave.treecheck import shows_none


def shows_won(web, name, kind, told):
    """Whether told is a pair, who wins the dispute about this name and a plan by which that is so."""
    web.check_has(name)
    if not is_row_of(told, 2):
        return False
    who, plan = told
    if kind == "firm":
        return is_firm_plan(web, name, who, plan)
    return kind == "some" and is_some_plan(web, name, who, plan)


def is_firm_plan(web, name, who, plan):
    if who == "asker":
        return are_rows_with(web, name, plan, 3) and are_answer_rows(web, plan)
    return who == "doubter" and are_rows_with(web, name, plan, 2) and are_doubt_rows(web, plan)


def is_some_plan(web, name, who, plan):
    if who == "asker":
        return is_set_of(web, plan) and name in plan and stands(web, plan)
    return who == "doubter" and shows_none(web, [name], plan)


def are_rows_with(web, name, plan, many):
    """Whether these are rows of so many things, each of another name of the web, one of them of this name."""
    if not is_listed(plan) or not all([is_row_of(row, many) for row in plan]):
        return False
    firsts = [row[0] for row in plan]
    return is_set_of(web, firsts) and name in firsts


def are_answer_rows(web, plan):
    numbers = {name: number for name, number, answers in plan}
    if not all([is_number(number) for number in numbers.values()]):
        return False
    return all([are_answers(web, numbers, name, answers) for name, number, answers in plan])


def are_answers(web, numbers, name, answers):
    """Whether these are pairs, one for each striker of the name, rising, and go by rows of lesser numbers."""
    doubts = web.strikers(name)
    if not is_row_of(answers, len(doubts)):
        return False
    lesser = [one for one in numbers if numbers[one] < numbers[name]]
    return all([is_answer(web, lesser, doubt, pair) for doubt, pair in zip(doubts, answers)])


def is_answer(web, lesser, doubt, pair):
    return is_row_of(pair, 2) and pair[0] == doubt and pair[1] in lesser and pair[1] in web.strikers(doubt)


def are_doubt_rows(web, plan):
    doubted = [name for name, doubt in plan]
    return all([is_doubt(web, doubted, name, doubt) for name, doubt in plan])


def is_doubt(web, doubted, name, doubt):
    """Whether doubt strikes the name, and each striker of doubt is doubted itself."""
    return doubt in web.strikers(name) and all([one in doubted for one in web.strikers(doubt)])
