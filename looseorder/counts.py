"""Closed lists: how many nouns each stock has, and how many a pattern needs."""

from looseorder.errors import BadCounts
from looseorder.names import is_row, is_whole
from looseorder.patterns import check_pattern

COUNT_MOST = 14


def check_counts(tongue, counts):
    """The counts of nouns, one for each stock, as a tuple."""
    many = len(tongue.stocks)
    if not is_row(counts, many, many) or not all([is_whole(count, 0, COUNT_MOST) for count in counts]):
        raise BadCounts()
    return tuple(counts)


def counts_used(tongue, frame, pattern):
    """How many nouns of each stock the pattern has."""
    told = check_pattern(tongue, frame, pattern)
    return counts_of_stocks(tongue, [stock for _, stock, _ in told])


def counts_of_stocks(tongue, stocks):
    """How often each stock of the tongue stands among these."""
    return tuple([stocks.count(stock) for stock in range(len(tongue.stocks))])


def does_fit(used, counts):
    """Whether the counts are nowhere less than what is used."""
    return all([need <= count for need, count in zip(used, counts)])


def with_count(counts, stock, count):
    """The counts with another one for a stock."""
    return (*counts[:stock], count, *counts[stock + 1:])
