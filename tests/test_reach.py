import itertools
import random
import unittest

from markrun.items import place_of, rows_of
from markrun.plainly import name_of
from markrun.reach import far_rows, reaches
from programs import program, some_jump, some_names, some_program
from telling import TellingCase

JUMPS = ("jump a", "when carry a", "unless sign a")


def rows(count):
    return [("set", 0, 1)] * count


def on(jump, distance):
    """A jump to a label at that distance on, the jump being near."""
    return program(jump) + rows(distance - 1) + [("label", "a")]


def back(jump, distance):
    return [("label", "a")] + rows(distance) + program(jump)


def jumps_of(items):
    return [number for number, row in enumerate(rows_of(items)) if row[0] in ("jump", "when", "unless")]


def all_choices(items):
    jumps = jumps_of(items)
    for count in range(len(jumps) + 1):
        for choice in itertools.combinations(jumps, count):
            yield list(choice)


def reaches_by_counting(items, far):
    """Each near jump's distance told by counting the words between."""
    sizes = [2 if number in far else 1 for number in range(len(rows_of(items)))]
    for number in jumps_of(items):
        place = place_of(items, rows_of(items)[number][-1])
        distance = sum(sizes[number:place]) if place > number else -sum(sizes[place:number])
        if number not in far and not -16 <= distance <= 15:
            return False
    return True


def few_jumps(seed, count):
    """A program in which some of a few jumps lie near the bounds of what they reach."""
    chance = random.Random(seed)
    names = some_names(chance, 5)
    items = rows(chance.randrange(28, 44))
    for turn in range(count):
        items.insert(chance.randrange(len(items) + 1), some_jump(chance, names))
    for name in names:
        items.insert(chance.randrange(len(items) + 1), ("label", name))
    return items


def chained(count, last):
    """Jumps seven rows apart, each 15 rows on, the last one so many rows on."""
    items = rows(7 * count + 20)
    for number in range(count):
        items[7 * number] = ("jump", name_of(number))
    for number in reversed(range(count)):
        place = 7 * number + (last if number == count - 1 else 15)
        items.insert(place, ("label", name_of(number)))
    return items


class Reaches(TellingCase):
    def test_the_bounds(self):
        for jump in JUMPS:
            for distance in range(1, 40):
                self.assertIs(self.tell(reaches, on(jump, distance), []), distance <= 15)
                self.assertIs(self.tell(reaches, back(jump, distance), []), distance <= 16)

    def test_far_ones_need_not_reach(self):
        for jump in JUMPS:
            for distance in (1, 15, 16, 17, 300):
                self.assertIs(self.tell(reaches, on(jump, distance), [0]), True)
                self.assertIs(self.tell(reaches, back(jump, distance), [distance]), True)

    def test_to_itself_and_to_the_next_row(self):
        self.assertIs(self.tell(reaches, program("a:, jump a"), []), True)
        self.assertIs(self.tell(reaches, program("jump a, a:"), []), True)

    def test_without_jumps(self):
        self.assertIs(self.tell(reaches, [], []), True)
        self.assertIs(self.tell(reaches, [("label", "a")], []), True)
        self.assertIs(self.tell(reaches, rows(399), []), True)

    def test_by_the_addresses_of_the_choice(self):
        items = program("jump a, jump b") + rows(13) + program("a:, stop, b:")
        self.assertIs(self.tell(reaches, items, []), True)
        self.assertIs(self.tell(reaches, items, [0]), True)
        self.assertIs(self.tell(reaches, items, [1]), False)
        self.assertIs(self.tell(reaches, items, [0, 1]), True)

    def test_a_far_jump_between_label_and_jump(self):
        items = program("a:, jump a") + rows(15) + program("jump a")
        self.assertIs(self.tell(reaches, items, []), True)
        self.assertIs(self.tell(reaches, items, [0]), False)
        self.assertIs(self.tell(reaches, items, [0, 16]), True)

    def test_one_of_several_does_not(self):
        items = program("a:, jump a, jump a") + rows(20) + program("jump a, jump b, b:")
        self.assertIs(self.tell(reaches, items, []), False)
        self.assertIs(self.tell(reaches, items, [0, 1, 23]), False)
        self.assertIs(self.tell(reaches, items, [22]), True)

    def test_all_choices_of_programs_by_chance(self):
        told = set()
        for seed in range(20):
            items = few_jumps(seed, 5)
            for far in all_choices(items):
                told.add(reaches(items, far))
                self.assertIs(reaches(items, far), reaches_by_counting(items, far))
        self.assertEqual(told, {True, False})


class FarRows(TellingCase):
    def test_none(self):
        for items in ([], program("a:"), rows(399), program("a:, jump a"), program("jump a, a:")):
            self.assert_told(self.tell(far_rows, items), [])

    def test_the_bounds(self):
        for jump in JUMPS:
            for distance in range(1, 40):
                self.assert_told(self.tell(far_rows, on(jump, distance)), [] if distance <= 15 else [0])
                self.assert_told(self.tell(far_rows, back(jump, distance)), [] if distance <= 16 else [distance])

    def test_a_far_jump_makes_another_one_far(self):
        items = program("jump a, jump b") + rows(14) + program("a:, stop, b:")
        self.assert_told(self.tell(far_rows, items), [0, 1])
        # Only row 1 is beyond its reach at first, and then row 0 is, too.
        items = program("jump a, jump b") + rows(13) + program("a:") + rows(9) + program("b:")
        self.assert_told(self.tell(far_rows, items), [0, 1])
        items = program("jump a, jump b") + rows(12) + program("a:") + rows(9) + program("b:")
        self.assert_told(self.tell(far_rows, items), [1])

    def test_one_by_one_down_a_long_row(self):
        # Each jump reaches just so, till the next one, which it leads over, is made far.
        for count in (2, 3, 10):
            jumps = [7 * number for number in range(count)]
            self.assert_told(self.tell(far_rows, chained(count, 15)), [])
            self.assert_told(self.tell(far_rows, chained(count, 16)), jumps)

    def test_it_is_the_least_of_all_choices(self):
        counts = set()
        for seed in range(60):
            items = few_jumps(seed, 1 + seed % 7)
            least = self.tell(far_rows, items)
            counts.add(len(least))
            self.assertEqual(least, sorted(set(least)))
            self.assertIs(reaches(items, least), True)
            for far in all_choices(items):
                if reaches_by_counting(items, far):
                    self.assertLessEqual(set(least), set(far))
        self.assertGreater(len(counts), 4)

    def test_none_of_them_could_be_near(self):
        for seed in range(30):
            items = some_program(seed, rows=90, jumps=4, labels=8)
            least = self.tell(far_rows, items)
            self.assertIs(reaches_by_counting(items, least), True)
            for number in least:
                self.assertIs(reaches(items, [other for other in least if other != number]), False)

    def test_a_program_of_most_items(self):
        items = some_program(3, rows=380, jumps=9, labels=19)
        self.assert_told(reaches(items, far_rows(items)), True)


if __name__ == "__main__":
    unittest.main()
