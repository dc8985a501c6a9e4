"""Rules "this role ahead of that one" and their closure."""

from looseorder.errors import BadRules
from looseorder.names import is_row, is_whole

RULES_MOST = 30


def check_rules(many, rules):
    """The rules of a tongue of so many roles, ascending and each once."""
    if not is_row(rules, 0, RULES_MOST):
        raise BadRules(0, "many")
    for index, rule in enumerate(rules):
        if not _is_rule(many, rule):
            raise BadRules(index, "rule")
    if has_ring(rules):
        raise BadRules(0, "ring")
    return tuple(sorted(set([tuple(rule) for rule in rules])))


def _is_rule(many, rule):
    if not is_row(rule, 2, 2):
        return False
    return all([is_whole(role, 0, many - 1) for role in rule]) and rule[0] != rule[1]


def closure_of(rules):
    """All couples to which the rules lead, directly or by others, ascending."""
    behind = {}
    for ahead, role in rules:
        behind.setdefault(ahead, []).append(role)
    couples = []
    for ahead in sorted(behind):
        couples += [(ahead, role) for role in _reached(behind, ahead)]
    return tuple(couples)


def _reached(behind, start):
    # The start itself is found only if a ring leads back to it.
    found = set()
    waiting = list(behind[start])
    while waiting:
        role = waiting.pop()
        if role not in found:
            found.add(role)
            waiting.extend(behind.get(role, ()))
    return sorted(found)


def has_ring(rules):
    """Whether the closure of the rules leads some role to itself."""
    return any([ahead == role for ahead, role in closure_of(rules)])


def does_keep(row, rules):
    """Whether the row has the first role of each rule before the second; it has all roles of the rules."""
    return all([row.index(ahead) < row.index(behind) for ahead, behind in rules])


def within(couples, roles):
    """Those of the couples both of which are among the roles."""
    return [couple for couple in couples if couple[0] in roles and couple[1] in roles]


def foremost(closure, roles):
    """Those of the roles, in their order, that no other one of them is ahead of."""
    return [role for role in roles if not any([(other, role) in closure for other in roles])]


def rows_within(closure, roles, allowed):
    """All rows of the roles, ascending, that keep the closure and have an allowed role at each place.

    The roles are ascending; allowed tells of the last places, one for each of the roles.
    """
    if len(roles) == 0:
        return [()]
    rows = []
    for role in foremost(closure, roles):
        if role in allowed[0]:
            left = [other for other in roles if other != role]
            rows += [(role, *row) for row in rows_within(closure, left, allowed[1:])]
    return rows


def rows_keeping(closure, roles):
    """All rows of the ascending roles, ascending, that keep the closure."""
    return rows_within(closure, roles, [roles] * len(roles))


def first_row(closure, roles):
    """The least row of the ascending roles that keeps the closure."""
    row = []
    left = roles
    while len(left) > 0:
        row.append(foremost(closure, left)[0])
        left = [role for role in left if role != row[-1]]
    return tuple(row)
