"""Points 1 to 3: what holds over the whole program."""

import unittest
from random import Random

from deepspot.deep import deepest, region, strong
from deepspot.depths import depth
from deepspot.halves import many_in, side
from deepspot.parting import parted, ranks
from deepspot.regions import lies_in
from deepspot.sharing import shared
from tests.plane import NAMED_HEAPS, long_heap, nothing_shared, some_heaps, some_spots


class Whole(unittest.TestCase):
    def promise(self, points):
        told = deepest(points)
        regions = {k: region(points, k) for k in range(1, len(points) + 2)}
        for spot in some_spots(points) + [told[1]]:
            deep = depth(points, spot)
            self.assertEqual((side(deep[1], spot), many_in(deep[1], points)), (0, deep[0]))
            self.assertLessEqual(deep[0], told[0])
            for k, part in regions.items():
                self.assertEqual(lies_in(part, spot) >= 0, deep[0] >= k)
        self.assertEqual(depth(points, told[1])[0], told[0])
        self.assertGreaterEqual(told[0] * 3, len(points))
        self.assertEqual([k for k in regions if regions[k]], list(range(1, told[0] + 1)))
        for one in told[2]:
            self.assertGreaterEqual(many_in(one, points), len(points) - told[0])
        if told[0] < len(points):
            nothing_shared(self, told[2], told[3])
            self.assertEqual(shared(told[2])[0], "none")
            self.assertEqual(shared(strong(points, len(points) - told[0]))[0], "none")
        self.assertEqual(shared(strong(points, len(points) - told[0] + 1))[0], "spot")
        self.assertEqual([depth(points, ((x, 1), (y, 1)))[0] for x, y in points], ranks(points))

    def test_promise(self):
        for points in some_heaps(1, 12):
            self.promise(points)

    def test_promise_with_long_numbers(self):
        for many in (2, 5, 12):
            self.promise(long_heap(many, 33))
        far = 10 ** 31
        for points in NAMED_HEAPS.values():
            self.promise([(x - far, far * y + far) for x, y in points])

    def test_another_order(self):
        lot = Random(4)
        for points in some_heaps(1, 12) + [long_heap(12)]:
            mixed = lot.sample(points, len(points))
            for many in (0, 1, len(points) // 2, len(points), len(points) + 1):
                self.assertEqual(strong(mixed, many), strong(points, many))
            for k in (1, (len(points) + 2) // 3, (len(points) + 1) // 2, len(points) + 1):
                self.assertEqual(region(mixed, k), region(points, k))
            self.assertEqual(deepest(mixed)[0], deepest(points)[0])
            for spot in some_spots(points)[::7]:
                self.assertEqual(depth(mixed, spot)[0], depth(points, spot)[0])
            self.assertEqual(dict(zip(mixed, ranks(mixed))), dict(zip(points, ranks(points))))

    def test_the_same_again(self):
        points = NAMED_HEAPS["five corners"]
        halves = strong(points, 4)
        kept = (list(points), list(halves))
        before = [
            shared(halves), depth(points, ((1, 2), (7, 3))), region(points, 2), deepest(points), parted(points[1:]),
            ranks(points),
        ]
        for other in some_heaps(4, 4):
            deepest(other)
            parted(other)
        after = [
            shared(halves), depth(points, ((1, 2), (7, 3))), region(points, 2), deepest(points), parted(points[1:]),
            ranks(points),
        ]
        self.assertEqual(before, after)
        self.assertEqual((points, halves), kept)


if __name__ == "__main__":
    unittest.main()
