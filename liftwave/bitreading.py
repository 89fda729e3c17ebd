"""Bit rows read, from any beginning of them."""

from liftwave.walks import Walk


def followed(bits, many, planes):
    walk = Walk(many, planes)
    walk.follow(bits)
    return walk


def read(bits, many, planes):
    walk = followed(bits, many, planes)
    return (walk.spans(), walk.used, walk.is_whole())


def ends(bits, many, planes):
    return followed(bits, many, planes).row_ends
