"""Which rules are beneath which by a book's promises, and the leads that follow from this."""

from leadrules.common import need_rule


def beneath(book, rule):
    """The sorted list of the rules that are beneath a rule, itself too."""
    need_rule(rule)
    return sorted(_steps_to([rule], _quick(book)))


def above(book, rule):
    """The sorted list of the rules that a rule is beneath, itself too."""
    need_rule(rule)
    return sorted(_steps_to([rule], [(other, first) for first, other in _quick(book)]))


def low(book, rule):
    """The greatest least of the leads of all rules beneath a rule; None without one."""
    under = beneath(book, rule)
    return max([lead[2] for lead in _leads(book) if lead[1] in under and lead[2] is not None], default=None)


def high(book, rule):
    """The least most of the leads of all rules above a rule; None without one."""
    over = above(book, rule)
    return min([lead[3] for lead in _leads(book) if lead[1] in over and lead[3] is not None], default=None)


def low_chain(book, rule):
    """The list of rules that shows the low of a rule; None without a low."""
    least = low(book, rule)
    if least is None:
        return None
    return _shortest_chain(book, [lead[1] for lead in _leads(book) if lead[2] == least], [rule])


def high_chain(book, rule):
    """The list of rules that shows the high of a rule; None without a high."""
    most = high(book, rule)
    if most is None:
        return None
    return _shortest_chain(book, [rule], [lead[1] for lead in _leads(book) if lead[3] == most])


def torn(book):
    """The sorted list of the rules of a book whose low is greater than their high."""
    return [rule for rule in book.rules if _is_torn(book, rule)]


def quick_pairs(book):
    """The sorted list of the tuples (rule, other) of unlike rules, the first one beneath the other."""
    return [(rule, other) for rule in book.rules for other in above(book, rule) if other != rule]


def _quick(book):
    """The list of (rule, other) of a book's quick promises."""
    return [promise[1:] for promise in book.promises if promise[0] == "quick"]


def _leads(book):
    """The list of a book's promises of leads."""
    return [promise for promise in book.promises if promise[0] == "lead"]


def _is_torn(book, rule):
    """Whether the low of a rule is greater than its high."""
    least, most = low(book, rule), high(book, rule)
    return least is not None and most is not None and least > most


def _steps_to(goals, quick):
    """The dict from all rules from which quick pairs lead to goals to the least number of steps."""
    steps = {rule: 0 for rule in goals}
    reached = list(goals)
    while reached:
        goal = reached.pop(0)
        for rule, other in quick:
            if other == goal and rule not in steps:
                steps[rule] = steps[goal] + 1
                reached.append(rule)
    return steps


def _shortest_chain(book, starts, goals):
    """The chain of quick promises from a start to a goal: of those of the fewest rules the least one."""
    steps = _steps_to(goals, _quick(book))
    # Starts with as many steps are told apart by themselves, as the chain's first rule counts first.
    rule = min([(steps[start], start) for start in starts if start in steps])[1]
    chain = [rule]
    while steps[rule] > 0:
        # The promises are sorted, so the first rule that is nearer is the least one.
        rule = [other for first, other in _quick(book) if first == rule and steps.get(other) == steps[rule] - 1][0]
        chain.append(rule)
    return chain
