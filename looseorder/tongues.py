"""Tongues: roles, stocks, frames, rules and the place of the verb."""

from looseorder.errors import BadNumber, BadRules, BadTongue, NoFrame, NoRole, NoRule, NoStock
from looseorder.frames import Frame
from looseorder.names import NAME_MOST, ending_from, is_name, is_number, is_row, is_whole, number_rank
from looseorder.rulings import check_rules, closure_of, has_ring
from looseorder.stocks import Stock

VERBS = ("first", "last", "free")


def check_role(tongue, role):
    """The role, if the tongue has it."""
    if not is_whole(role, 0, len(tongue.roles) - 1):
        raise NoRole(role)
    return role


def check_stock(tongue, stock):
    """The number of a stock, if the tongue has it."""
    if not is_whole(stock, 0, len(tongue.stocks) - 1):
        raise NoStock(stock)
    return stock


def check_frame(tongue, frame):
    """The number of a frame, if the tongue has it."""
    if not is_whole(frame, 0, len(tongue.frames) - 1):
        raise NoFrame(frame)
    return frame


def _check_roles(roles):
    if not is_row(roles, 1, 6):
        raise BadTongue(0, "roles")
    for index, name in enumerate(roles):
        if not is_name(name, NAME_MOST) or name in roles[:index]:
            raise BadTongue(index, "role")


def _is_named_before(rows, index):
    return any([row.name == rows[index].name for row in rows[:index]])


def _check_stocks(many, stocks):
    if not is_row(stocks, 1, 4):
        raise BadTongue(0, "stocks")
    for index, stock in enumerate(stocks):
        if not isinstance(stock, Stock) or _is_named_before(stocks, index) or stock.borne[-1] >= many:
            raise BadTongue(index, "stock")


def _check_frames(many, frames):
    if not is_row(frames, 1, 4):
        raise BadTongue(0, "frames")
    for index, frame in enumerate(frames):
        if not isinstance(frame, Frame) or _is_named_before(frames, index) or frame.slots[-1] >= many:
            raise BadTongue(index, "frame")


def _check_borne(stocks, frames):
    borne = [role for stock in stocks for role in stock.borne]
    for index, frame in enumerate(frames):
        if any([role not in borne for role in frame.nouns]):
            raise BadTongue(index, "borne")
    if all([frame.clause is not None for frame in frames]):
        raise BadTongue(0, "clause")


def _told_rules(many, rules):
    try:
        return check_rules(many, rules)
    except BadRules as fault:
        raise BadTongue(fault.index, "rules" if fault.what == "many" else fault.what) from None


def _is_verbs(verbs):
    return isinstance(verbs, str) and verbs in VERBS


def with_tables(tongue, tables):
    """The tongue with another table for each stock."""
    stocks = [Stock(stock.name, table) for stock, table in zip(tongue.stocks, tables)]
    return Tongue(tongue.roles, stocks, tongue.frames, tongue.rules, tongue.verbs)


def _put(rows, at, row):
    return [*rows[:at], row, *rows[at + 1:]]


class Tongue:
    """A tongue, told by what its hearers know of it."""

    def __init__(self, roles, stocks, frames, rules=(), verbs="last"):
        _check_roles(roles)
        _check_stocks(len(roles), stocks)
        _check_frames(len(roles), frames)
        _check_borne(stocks, frames)
        self.rules = _told_rules(len(roles), rules)
        if not _is_verbs(verbs):
            raise BadTongue(0, "verbs")
        self.roles = tuple(roles)
        self.stocks = tuple(stocks)
        self.frames = tuple(frames)
        self.verbs = verbs
        self._closure = closure_of(self.rules)

    def __eq__(self, other):
        return (isinstance(other, Tongue) and self.roles == other.roles and self.stocks == other.stocks
                and self.frames == other.frames and self.rules == other.rules and self.verbs == other.verbs)

    @property
    def closure(self):
        """All couples to which the rules lead, ascending."""
        return self._closure

    def is_ahead(self, role, other):
        """Whether the closure puts the role ahead of the other."""
        return (role, other) in self._closure

    def are_beside(self, role, other):
        """Whether two roles are unlike and side by side."""
        return role != other and not self.is_ahead(role, other) and not self.is_ahead(other, role)

    def ending_at(self, stock, role, number):
        """The ending by which the stock shows the role, or None if it is not borne."""
        return self.stocks[stock].ending_for(role, number)

    def with_rule(self, ahead, behind):
        """The tongue with a rule more."""
        check_role(self, ahead)
        check_role(self, behind)
        rules = [*self.rules, (ahead, behind)]
        if has_ring(rules):
            raise BadTongue(0, "ring")
        return self.with_rules(rules)

    def without_rule(self, ahead, behind):
        """The tongue with a told rule struck."""
        check_role(self, ahead)
        check_role(self, behind)
        if (ahead, behind) not in self.rules:
            raise NoRule()
        return self.with_rules([rule for rule in self.rules if rule != (ahead, behind)])

    def with_rules(self, rules):
        """The tongue with these rules in the place of all."""
        told = check_rules(len(self.roles), rules)
        return Tongue(self.roles, self.stocks, self.frames, told, self.verbs)

    def with_stock(self, stock, table):
        """The tongue with another table for a stock."""
        check_stock(self, stock)
        stocks = _put(self.stocks, stock, Stock(self.stocks[stock].name, table))
        return Tongue(self.roles, stocks, self.frames, self.rules, self.verbs)

    def with_ending(self, stock, role, number, ending):
        """The tongue with another ending in one cell of a stock's table."""
        check_stock(self, stock)
        check_role(self, role)
        borne = self.stocks[stock].borne
        if role not in borne:
            raise NoRole(role)
        if not is_number(number):
            raise BadNumber()
        table = self.stocks[stock].table
        at = borne.index(role)
        row = _put(table[at], 1 + number_rank(number), ending_from(ending))
        return self.with_stock(stock, _put(table, at, row))

    def with_agreed(self, frame, agreed):
        """The tongue with another agreed role for a frame."""
        check_frame(self, frame)
        old = self.frames[frame]
        frames = _put(self.frames, frame, Frame(old.name, old.nouns, old.clause, agreed))
        return Tongue(self.roles, self.stocks, frames, self.rules, self.verbs)

    def with_verbs(self, verbs):
        """The tongue with another place of the verb."""
        return Tongue(self.roles, self.stocks, self.frames, self.rules, verbs)
