"""What one place or one seeker more or less is worth."""

from heldbest.greatestrows import greatest_prices
from heldbest.leastrows import least_prices
from heldbest.lots import lot_without
from heldbest.parameters import held_of, look_at_desk, look_at_seeker
from heldbest.seats import value
from heldbest.solving import best_value, look_at_best


def one_more(table, desk):
    """What the best value grows by with one place more at the desk."""
    look_at_desk(table, desk)
    return least_prices(table)[desk]


def one_less(table, desk):
    """What the best value falls by with one place less at the desk."""
    look_at_desk(table, desk)
    return greatest_prices(table)[desk]


def gain_for_all(table, seeker):
    """What the best value would fall by without the seeker."""
    return best_value(table) - best_value_without(table, seeker)


def cost_to_others(table, held, seeker):
    """What the others could have without the seeker, less what they have in a best assignment."""
    seated = held_of(table, held)
    look_at_seeker(table, seeker)
    look_at_best(table, seated)
    worths_of_others = value(table, seated) - table.worth(seeker, seated[seeker])
    return best_value_without(table, seeker) - worths_of_others


def best_value_without(table, seeker):
    """The best value of the lot of all other seekers."""
    return best_value(table, lot_without(table, None, seeker))
