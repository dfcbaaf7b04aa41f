"""What a seeker has if it tells another row than its own."""

from heldbest.duals import gain, profit
from heldbest.edits import rowed
from heldbest.leastrows import least_prices
from heldbest.solving import solve


def nets(table, seeker, row):
    """The seeker's profit at the least row, and what it gains by its own worths if it tells `row`."""
    held, prices = solve(rowed(table, seeker, row))
    return (profit(table, seeker, least_prices(table)), gain(table, seeker, held[seeker], prices))
