"""What is asked of a shape, a stock and formulas about the whole, ahead of the reader."""

from wholebyparts.errors import InvalidParts, Refused
from wholebyparts.main.making import Making
from wholebyparts.part.structures import Structure
from wholebyparts.read.drafts import reader_from
from wholebyparts.say.formulas import MOST_DEPTH, quantified
from wholebyparts.shape.shapes import check_shape
from wholebyparts.shape.wholes import check_whole_formula

MOST_STOCK = 6
MOST_STOCK_SIZE = 4


def is_stock(signature, value):
    """Whether the value is a stock of the signature."""
    if not isinstance(value, tuple) or not 1 <= len(value) <= MOST_STOCK:
        return False
    return all([is_stock_member(signature, structure) for structure in value])


def is_stock_member(signature, value):
    """Whether the value is a structure of the signature, small enough for a stock."""
    return isinstance(value, Structure) and value.signature == signature and value.size <= MOST_STOCK_SIZE


def check_stock(shape, value):
    """Refuse what is no shape with a stock of its signature."""
    check_shape(shape)
    if not is_stock(shape.signature, value):
        raise InvalidParts(f"this is no tuple of 1 to {MOST_STOCK} structures of the signature, each of a size up to 4")


def check_asked(shape, stock, formula):
    """Refuse what is no shape with a stock and a closed formula about the wholes."""
    check_stock(shape, stock)
    check_whole_formula(shape, formula)


def check_depth_with(shape, depth):
    """Refuse a depth that is too great together with the extra of the shape."""
    if depth + shape.extra > MOST_DEPTH:
        raise Refused(("deep",))


def made_reader(shape, stock, formula):
    """The least reader of a formula that is right: Refused if it is too deep, TooMany for too many states."""
    check_depth_with(shape, quantified(formula))
    return reader_from(Making(shape, stock).draft(formula))
