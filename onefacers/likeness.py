"""Webs that are alike but for their facers' names."""

from onefacers.ends import mates_of
from onefacers.matching import matching, net_of


def _net(web):
    """A web as a net, as `matching` wants it."""
    return net_of(web.kinds(), web.facers(), mates_of(web.ties()))


def renaming(one, other):
    """A dict from the WHOS of one web to those of the other, by which it is the other; or None."""
    if one.kinds() != other.kinds():
        return None
    return matching(_net(one), _net(other), {name: name for name in one.outers()})


def alike(one, other):
    """Whether two webs are alike but for their facers' names."""
    return renaming(one, other) is not None
