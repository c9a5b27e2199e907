"""Shapes: rules by which parts make a whole."""

from wholebyparts.checks import check_index
from wholebyparts.errors import InvalidShape
from wholebyparts.part.structures import MOST_RELATIONS, check_signature, is_signature
from wholebyparts.read.readers import Reader
from wholebyparts.say.formulas import quantified
from wholebyparts.shape.rules import all_rule, first_rule, has_form, opposite_rule, some_rule

BOTH_NONE = ("and", ("none", 0), ("none", 1))


def shape_fault(signature, domain, marks, links):
    """The first fault of the values as those of a shape, None without any."""
    if not is_signature(signature):
        return ("signature",)
    if not has_form(signature, 1, domain):
        return ("domain",)
    if not isinstance(marks, tuple) or len(marks) > MOST_RELATIONS:
        return ("marks",)
    if not isinstance(links, tuple) or len(links) > MOST_RELATIONS:
        return ("links",)
    for index, rule in enumerate(marks):
        if not has_form(signature, 1, rule):
            return ("mark", index)
    for index, rule in enumerate(links):
        if not has_form(signature, 2, rule):
            return ("link", index)
    return None


class Shape:
    """The signature of the parts, and the rules of the whole: its elements, its marks and links. It never changes."""

    def __init__(self, signature, domain, marks, links):
        fault = shape_fault(signature, domain, marks, links)
        if fault is not None:
            raise InvalidShape(f"a shape with the fault {fault}")
        self.signature = signature
        self.domain = domain
        self.marks = marks
        self.links = links
        self.whole_signature = (len(marks), len(links))
        self.extra = max([0] + [quantified(test) for rule in (domain, *marks, *links) for test in rule[0]])

    def __eq__(self, other):
        if not isinstance(other, Shape):
            return False
        if self.signature != other.signature or self.domain != other.domain:
            return False
        return self.marks == other.marks and self.links == other.links

    def __str__(self):
        return f"shape with {len(self.marks)} marks and {len(self.links)} links"


def check_shape(value):
    """Refuse what is no shape."""
    if not isinstance(value, Shape):
        raise InvalidShape("this is no shape")


def _marks_by(call, signature):
    """For each mark of the signature the rule that the call makes of it."""
    return tuple([call(signature, 1, ("mark", mark, 0)) for mark in range(signature[0])])


def _links_by(call, signature):
    """For each link of the signature the rule that the call makes of it."""
    return tuple([call(signature, 2, ("link", link, 0, 1)) for link in range(signature[1])])


def _check_link(signature, link):
    check_signature(signature)
    check_index(link, signature[1])


def product_shape(signature):
    """The product: an element of each part."""
    check_signature(signature)
    domain = ((("none", 0),), Reader(2, ((0, 1), (1, 1)), (0,)))
    return Shape(signature, domain, _marks_by(all_rule, signature), _links_by(all_rule, signature))


def sum_shape(signature):
    """The sum: an element of just one part."""
    check_signature(signature)
    domain = ((("none", 0),), Reader(2, ((1, 0), (2, 1), (2, 2)), (1,)))
    return Shape(signature, domain, _marks_by(some_rule, signature), _links_by(some_rule, signature))


def some_shape(signature):
    """The whole of all rows."""
    check_signature(signature)
    links = []
    for link in range(signature[1]):
        links.append(all_rule(signature, 2, ("or", BOTH_NONE, ("link", link, 0, 1))))
    domain = ((), Reader(1, ((0,),), (0,)))
    return Shape(signature, domain, _marks_by(some_rule, signature), tuple(links))


def ahead_shape(signature, link):
    """The sum whose link also leads from each element of an earlier part to each one of a later part."""
    _check_link(signature, link)
    rule = first_rule(signature, 2, ("not", BOTH_NONE), ("or", ("none", 1), ("link", link, 0, 1)))
    return _with_link(sum_shape(signature), link, rule)


def first_shape(signature, link):
    """The product whose link holds if it does at the first place at which the members are unlike."""
    _check_link(signature, link)
    rule = first_rule(signature, 2, ("not", ("same", 0, 1)), ("link", link, 0, 1))
    return _with_link(product_shape(signature), link, rule)


def opposite_link(shape, link):
    """The shape with the opposite rule for one link of the whole."""
    check_shape(shape)
    check_index(link, len(shape.links))
    return _with_link(shape, link, opposite_rule(shape.signature, 2, shape.links[link]))


def _with_link(shape, link, rule):
    links = shape.links[:link] + (rule,) + shape.links[link + 1:]
    return Shape(shape.signature, shape.domain, shape.marks, links)
