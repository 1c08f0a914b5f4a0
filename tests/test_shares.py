import unittest

from dykelengths.shares import share, shares
from tests.helper import shape, untouched

HUGE = 10 ** 60 - 1


def counted(total, every, low, high):
    return len([k for k in range(total) if low <= k * every // total < high])


class Share(unittest.TestCase):
    def test_against_counting(self):
        for total in range(13):
            for every in range(1, 13):
                for low in range(every + 1):
                    for high in range(low, every + 1):
                        self.assertEqual(shape(share(total, every, low, high)),
                                         shape(counted(total, every, low, high)), (total, every, low, high))

    def test_against_counting_of_larger_ones(self):
        for total, every in ((1000, 7), (7, 1000), (360, 100), (997, 991), (0, 50), (64, 4096)):
            for low in range(0, every + 1, max(1, every // 13)):
                for high in (low, (low + every) // 2, every):
                    self.assertEqual(share(total, every, low, high), counted(total, every, low, high))

    def test_ends(self):
        for total, every in ((5, 3), (3, 5), (HUGE, 7), (7, HUGE), (HUGE, HUGE - 1), (0, HUGE), (1, 1)):
            self.assertEqual(share(total, every, 0, every), total)
            for place in (0, 1, every // 2, every - 1, every):
                self.assertEqual(share(total, every, place, place), 0)
                self.assertEqual(share(total, every, 0, place) + share(total, every, place, every), total)

    def test_by_the_division_for_sixty_figures(self):
        for total, every in ((HUGE, HUGE - 2), (HUGE // 7, HUGE // 3), (HUGE, 10 ** 6), (10 ** 7, HUGE), (0, HUGE)):
            for low in (0, 1, every // 3, every // 2 + 1, every - 1):
                for high in (low, low + 1, (low + every) // 2, every):
                    # The first k of an acre x is the least one with k * every >= x * total.
                    below = [-(-(place * total) // every) for place in (low, high)]
                    told = share(total, every, low, high)
                    self.assertEqual(told, below[1] - below[0])
                    self.assertLess(abs(told * every - total * (high - low)), every)

    def test_the_first_of_a_share_is_its_own(self):
        total, every = HUGE, 10 ** 59 + 7
        for acre in (0, 1, every // 2, every - 1):
            first = share(total, every, 0, acre)
            self.assertEqual(first * every // total, acre)
            self.assertEqual((first - 1) * every // total, acre - 1)
            last = first + share(total, every, acre, acre + 1) - 1
            self.assertEqual(last * every // total, acre)


class Shares(unittest.TestCase):
    def test_against_counting(self):
        for total in range(12):
            for weights in ([1], [3, 2], [2, 3], [0, 5, 0, 1], [1, 1, 1, 1], [7, 0, 0], [0, 0, 9], [2, 5, 4]):
                every, told, low = sum(weights), [], 0
                for weight in weights:
                    told.append(counted(total, every, low, low + weight))
                    low += weight
                self.assertEqual(shape(untouched(self, shares, total, weights)), shape(told), (total, weights))

    def test_they_come_together_to_the_total(self):
        for total in (0, 1, 99, 10 ** 9, HUGE):
            for weights in ([HUGE, 1, 0, HUGE // 3], [1] * 2000, list(range(50)), [0, HUGE]):
                told = shares(total, weights)
                self.assertEqual((sum(told), len(told)), (total, len(weights)))
                for some, weight in zip(told, weights):
                    self.assertLess(abs(some * sum(weights) - total * weight), sum(weights))
                    if weight == 0:
                        self.assertEqual(some, 0)

    def test_in_one_step_or_several(self):
        for total in (0, 7, 100, HUGE):
            whole = shares(total, [12, 30, 18])
            finer = shares(total, [5, 7, 10, 10, 10, 0, 18])
            self.assertEqual(whole, [sum(finer[:2]), sum(finer[2:5]), sum(finer[5:])])

    def test_what_was_told_is_the_askers_own(self):
        weights = [1, 2, 3]
        first = shares(10, weights)
        kept = list(first)
        weights[0] = 9
        self.assertEqual(first, kept)
        first.clear()
        self.assertEqual(shares(10, [1, 2, 3]), kept)
