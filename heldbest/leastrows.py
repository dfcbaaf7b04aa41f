"""The least row of a lot."""

from heldbest.solving import solve


def least_prices(table, lot=None):
    """The accepted row of the lot that is at no desk greater than any other one."""
    return solve(table, lot)[1]
