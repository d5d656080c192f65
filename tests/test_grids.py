"""Many near pairs on grids: their marks, and how they grow."""

import random
import unittest

from samples import BACK, DRAGON, FAR_ASIDE, FAR_BACK, SAMPLES, STRAIGHT, THREE, even_books
from strokeonce.grids import Field, grid_of, marks_of, put_marks, without
from strokeonce.nearness import farness_nearness, middle_nearness, rows_of_disc
from strokeonce.pairs import comes_again, draws_same, growth_of, touches
from strokeonce.steps import Steps

BOOKS = SAMPLES + (FAR_BACK, FAR_ASIDE) + tuple(even_books(20, 41))


def measures(book):
    growth = growth_of(book)
    return farness_nearness(growth), middle_nearness(growth)


def near_places(nearness, turn):
    return [(x, y) for x, low, high in rows_of_disc(nearness.discs[turn]) for y in range(low, high + 1)]


def random_near_pairs(source, nearness, many):
    letters = nearness.growth.letters
    pairs = set()
    for _ in range(many):
        turn = source.randrange(4)
        x, y = source.choice(near_places(nearness, turn))
        pairs.add((x, y, source.choice(letters), turn, source.choice(letters)))
    return sorted(pairs)


def pairs_on(field, grids):
    places = field.places()
    return {(*places[index], *key) for key, grid in grids.items() for index in marks_of(grid)}


class Marks(unittest.TestCase):

    def test_there_and_back(self):
        source = random.Random(4)
        for most in (1, 5, 100, 8191, 8192, 8193, 50000):
            for many in (1, 15, 16, 17, 400):
                marks = sorted(set([source.randrange(most) for _ in range(many)] + [most - 1]), reverse=True)
                self.assertEqual(marks_of(grid_of(marks)), marks)
                self.assertEqual(grid_of(marks), sum([2 ** mark for mark in marks]))
        self.assertEqual(grid_of([]), 0)

    def test_grids_that_are_held(self):
        held = {1: 0b0110}
        self.assertEqual(without({1: 0b1110, 2: 0b1, 3: 0}, held), {1: 0b1000, 2: 0b1})
        put_marks({1: 0b1100, 2: 0b1}, held)
        self.assertEqual(held, {1: 0b1110, 2: 0b1})


class Fields(unittest.TestCase):

    def test_near_pairs_on_a_field(self):
        source = random.Random(3)
        for book in BOOKS:
            for nearness in measures(book):
                field = Field(nearness)
                pairs = random_near_pairs(source, nearness, 30)
                with self.subTest(book=book):
                    self.assertEqual(pairs_on(field, field.grids_of(pairs + pairs)), set(pairs))
                    for turn in range(4):
                        places = field.places()
                        near = [places[index] for index in marks_of(field.near[turn])]
                        self.assertEqual(sorted(near), near_places(nearness, turn))

    def test_growing_as_one_by_one(self):
        source = random.Random(5)
        for book in BOOKS + (STRAIGHT,):
            for nearness in measures(book):
                field, steps = Field(nearness), Steps(nearness)
                for many in (1, 60):
                    pairs = random_near_pairs(source, nearness, many)
                    grown = {whole for pair in pairs for half in steps.halves(pair) for whole in steps.wholes(half)}
                    with self.subTest(book=book, pairs=pairs):
                        grids = field.grown(field.half_grown(field.indexes_of(pairs)))
                        self.assertEqual(pairs_on(field, grids), grown)

    def test_all_near_pairs_at_once(self):
        for book in (DRAGON, THREE, BACK, FAR_BACK):
            for nearness in measures(book):
                field, steps = Field(nearness), Steps(nearness)
                pairs = [(*place, letter, turn, letter) for turn in range(4) for place in near_places(nearness, turn)
                         for letter in nearness.growth.letters[:1]]
                grown = {whole for pair in pairs for half in steps.halves(pair) for whole in steps.wholes(half)}
                grids = field.grown(field.half_grown(field.indexes_of(pairs)))
                self.assertEqual(pairs_on(field, grids), grown)

    def test_masks(self):
        for book in BOOKS:
            for nearness in measures(book):
                field = Field(nearness)
                for wanted in (draws_same, comes_again, touches):
                    masks = field.masks(wanted)
                    for turn in range(4):
                        places = [place for place in near_places(nearness, turn) if wanted((*place, 0, turn, 0))]
                        told = [field.places()[index] for index in marks_of(masks[turn])]
                        self.assertEqual(sorted(told), places)


if __name__ == "__main__":
    unittest.main()
