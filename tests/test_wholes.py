import math
import unittest

from calm.wholes import divisor_of
from tests.samples import source_of


class Divisors(unittest.TestCase):
    def test_by_hand(self):
        for numbers, divisor in (
            ([], 0), ([0], 0), ([0, 0], 0), ([7], 7), ([-7], 7), ([0, -7], 7), ([12, 18], 6), ([18, 12, 0, -8], 2),
            ([4, 9], 1), ([10 ** 40, 10 ** 30 * 6], 2 * 10 ** 30),
        ):
            self.assertEqual(divisor_of(numbers), divisor, numbers)

    def test_seeded(self):
        rng = source_of(30)
        for _ in range(300):
            numbers = [rng.randrange(-60, 61) for _ in range(rng.randrange(4))]
            self.assertEqual(divisor_of(numbers), math.gcd(*numbers))


if __name__ == "__main__":
    unittest.main()
