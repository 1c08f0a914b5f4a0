"""Shares of a total by acres, with nothing over."""


def share_below(total, every, acre):
    """How many of the total go to the acres below this one: the least k with k * every // total at it or beyond."""
    return (acre * total + every - 1) // every


def share(total, every, low, high):
    """How many of the total, shared over every acre, go to those from low to below high."""
    return share_below(total, every, high) - share_below(total, every, low)


def shares(total, weights):
    """The shares of so many acres each, one behind another."""
    every = sum(weights)
    told = []
    low = 0
    for weight in weights:
        told.append(share(total, every, low, low + weight))
        low += weight
    return told
