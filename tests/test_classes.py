"""Classes of things that go on alike, which least tables and machines are made of."""

import random
import unittest

from slowshelves.classes import alike_classes, first_apart


def classes_by_eye(keys, following):
    """Classes parted as long as what follows tells some apart."""
    signs = list(keys)
    while True:
        longer = [(sign, tuple(signs[other] for other in row)) for sign, row in zip(signs, following)]
        numbers = {}
        longer = [numbers.setdefault(sign, len(numbers)) for sign in longer]
        if len(numbers) == len(set(signs)):
            return tuple(longer)
        signs = longer


class TestClasses(unittest.TestCase):
    def test_things_that_lead_anywhere(self):
        luck = random.Random(1)
        for _ in range(600):
            many, steps, kinds = luck.randint(1, 40), luck.randint(0, 3), luck.randint(1, 4)
            keys = [luck.randrange(kinds) for _ in range(many)]
            following = [tuple(luck.randrange(many) for _ in range(steps)) for _ in range(many)]
            self.assertEqual(classes_by_eye(keys, following), alike_classes(keys, following))

    def test_things_that_lead_to_few(self):
        luck = random.Random(2)
        for _ in range(600):
            many = luck.randint(2, 60)
            keys = [int(luck.random() < .1) for _ in range(many)]
            following = [(luck.randrange(min(many, at + 2)), min(at + 1, many - 1)) for at in range(many)]
            self.assertEqual(classes_by_eye(keys, following), alike_classes(keys, following))

    def test_a_long_row(self):
        many = 3000
        following = [(min(at + 1, many - 1),) for at in range(many)]
        self.assertEqual(tuple(range(many)), alike_classes([0] * (many - 1) + [1], following))
        self.assertEqual((0,) * many, alike_classes([7] * many, following))

    def test_first_apart(self):
        one = (((0, 1, 1), (1, 1, 0)), ((0, 0, 0), (1, 0, 1)))
        other = (((0, 1, 1), (1, 1, 0)), ((0, 0, 0), (1, 1, 1)))
        self.assertIsNone(first_apart(one, one))
        self.assertEqual((0, 1), first_apart(one, other))
        self.assertEqual((0,), first_apart((((0, 1, 0),),), (((0, 0, 0),),)))


if __name__ == "__main__":
    unittest.main()
