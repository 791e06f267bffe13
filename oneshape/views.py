"""Views of keys, told looks and plans: of which kind a value is, the errors for wrong ones, and what views tell."""

from oneshape.checks import is_key_below, is_lot_below
from oneshape.errors import InvalidCount, InvalidLot, InvalidPlan, InvalidTold, InvalidViews

MOST_VIEWED_KEYS = 8
MOST_DIFFERING = 3
MOST_TOLD_LOOKS = 40
MOST_LOOKS_ON_A_WAY = 20


def lots_up_to(count, most):
    """The list, in lot order, of the lots of at most most keys less than count."""
    found = [()]
    layer = [()]
    for _ in range(min(count, most)):
        layer = [lot + (key,) for lot in layer for key in range(lot[-1] + 1 if lot else 0, count)]
        found += layer
    return found


def tells_same(view, lot):
    """What the view tells of the lot."""
    low, high = view
    return not any([low <= key <= high for key in lot])


def fits(told, lot):
    """Whether the lot fits the told looks."""
    return all([tells_same((low, high), lot) == same for low, high, same in told])


def holds_view(count, value):
    """Whether the value is a view of count keys."""
    if type(value) is not tuple or len(value) != 2:
        return False
    low, high = value
    return is_key_below(high, count) and is_key_below(low, high + 1)


def holds_views(count, value):
    """Whether the value is views of count keys."""
    if type(value) is not tuple or not all([holds_view(count, view) for view in value]):
        return False
    return all([view < following for view, following in zip(value, value[1:])])


def holds_told(count, value):
    """Whether the value is told looks of count keys."""
    if type(value) is not tuple or len(value) > MOST_TOLD_LOOKS:
        return False
    return all([_holds_told_look(count, look) for look in value])


def _holds_told_look(count, value):
    if type(value) is not tuple or len(value) != 3:
        return False
    return holds_view(count, value[:2]) and type(value[2]) is bool


def holds_witness(count, most, views, lot, value):
    """Whether the value is a witness of the lot."""
    if not holds_told(count, value) or len(set(value)) != len(value):
        return False
    if not all([look[:2] in views for look in value]):
        return False
    return [other for other in lots_up_to(count, most) if fits(value, other)] == [lot]


def holds_plan(count, most, views, value):
    """Whether the value is a plan for these."""
    return _leads(count, views, value, lots_up_to(count, most), MOST_LOOKS_ON_A_WAY)


def _leads(count, views, value, lots, looks):
    """Whether the value is an answer or goes on with at most so many looks, and each of the lots comes to itself."""
    if is_lot_below(value, count):
        return all([lot == value for lot in lots])
    if looks == 0 or not _holds_look(count, views, value):
        return False
    _, low, high, first, second = value
    same = [lot for lot in lots if tells_same((low, high), lot)]
    unlike = [lot for lot in lots if not tells_same((low, high), lot)]
    return _leads(count, views, first, same, looks - 1) and _leads(count, views, second, unlike, looks - 1)


def _holds_look(count, views, value):
    if type(value) is not tuple or len(value) != 5:
        return False
    if type(value[0]) is not str or value[0] != "look":
        return False
    return holds_view(count, value[1:3]) and value[1:3] in views


def check_viewed_keys(count, most):
    """The errors of these two parameters, in their order."""
    if type(count) is not int or not 1 <= count <= MOST_VIEWED_KEYS:
        raise InvalidCount("here a count is an integer from 1 to 8")
    if type(most) is not int or not 0 <= most <= MOST_DIFFERING:
        raise InvalidCount("most is an integer from 0 to 3")


def check_views(count, most, views):
    """The errors of these three parameters, in their order."""
    check_viewed_keys(count, most)
    if not holds_views(count, views):
        raise InvalidViews("views are an ascending tuple of tuples (low, high) of keys")


def check_told(count, told):
    """InvalidTold unless these are told looks of count keys."""
    if not holds_told(count, told):
        raise InvalidTold("told looks are a tuple of at most 40 tuples (low, high, same)")


def check_plan(count, most, views, plan):
    """InvalidPlan unless this is a plan for these."""
    if not holds_plan(count, most, views, plan):
        raise InvalidPlan("this is not a plan for so many keys and these views")


def check_few_keys(count, most, lot):
    """InvalidLot unless this is a lot of at most most keys less than count."""
    if not is_lot_below(lot, count) or len(lot) > most:
        raise InvalidLot("here a lot is an ascending tuple of at most most keys")
