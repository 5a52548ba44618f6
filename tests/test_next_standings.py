"""Point 23 against the plain model: all that can happen to owners gives just these standings."""

import random
import unittest

import naive
from countsheld.standings import alone, is_standing, meeting
from test_model import a_desk


def a_standing(dice, desk):
    """Return a standing of the desk by chance."""
    while True:
        numbers = tuple(dice.choice([0, 1, 1, 2]) for _ in desk.rules.kinds)
        groups = {}
        for at in range(dice.choice([0, 1, 2, 2, 3])):
            door = dice.choice(desk.doors)
            if len(door) > 1:
                labels = ["gone", *desk.rules.kinds, *desk.rules.loose] if door.names_row else [""]
                label = dice.choice(labels)
                place = (label, dice.choice([0, 0, 1]) if label not in ("", "gone") else 0)
                groups.setdefault(place, []).append((door.name, dice.randrange(1, len(door))))
        listed = sorted((label, tuple(sorted(calls))) for (label, _), calls in groups.items())
        if is_standing(desk, (numbers, tuple(listed))):
            return numbers, tuple(listed)


class TestNextStandings(unittest.TestCase):

    def check_alone(self, desk, standing, only_going):
        found = alone(desk, standing, only_going=only_going)
        self.assertEqual(len(found), len(set(found)))
        wanted = naive.alone(desk, standing, only_going)
        self.assertEqual(set(found), wanted, (str(desk), standing))
        for behind in found:
            self.assertTrue(is_standing(desk, behind))
        return len(found)

    def check_meeting(self, desk, home, other, only_going):
        found = meeting(desk, home, other, only_going=only_going)
        self.assertEqual(len(found), len(set(found)))
        wanted = naive.meeting(desk, home, other, only_going)
        self.assertEqual(set(found), wanted, (str(desk), home, other))
        return len(found)

    def test_alone(self):
        many = 0
        for seed in range(120):
            dice = random.Random(seed)
            desk, _ = a_desk(dice)
            for _ in range(3):
                many += self.check_alone(desk, a_standing(dice, desk), dice.random() < 0.3)
        self.assertGreater(many, 600)

    def test_meeting(self):
        many = 0
        for seed in range(220):
            dice = random.Random(seed)
            desk, _ = a_desk(dice)
            for _ in range(2):
                home = a_standing(dice, desk)
                other = home if dice.random() < 0.2 else a_standing(dice, desk)
                many += self.check_meeting(desk, home, other, dice.random() < 0.3)
        self.assertGreater(many, 400)


if __name__ == "__main__":
    unittest.main()
