"""How near pairs become near pairs, one by one.

Growing goes in two steps, as that takes far fewer looks than all strokes of the
one word beside all of the other: first the first stroke becomes its letter's
word, which gives half-grown pairs, then the second one does. A half-grown pair
has the form of a pair, but its x and y tell where the second stroke's path
begins.
"""

from strokeonce.paths import rotate


class Steps:
    """The two steps for the near pairs of a measure."""

    def __init__(self, nearness):
        growth = nearness.growth
        discs = nearness.discs
        self.growth = growth
        self.most = nearness.most
        self.half_discs = nearness.half_discs
        # Each stroke that a second one becomes, behind what is added to twice the place for its disc.
        self.seconds = {key: [(2 * x + discs[heading][0], 2 * y + discs[heading][1], x, y, heading, letter)
                              for x, y, heading, letter in strokes]
                        for key, strokes in growth.seconds.items()}

    def numbered_halves(self, pair):
        """The half-grown pairs for each stroke that the first one becomes, each behind the stroke's number.

        Those are left out that are too far away to become near pairs.
        """
        letter, turn, other = pair[2:]
        grown_x, grown_y = self.growth.grown_place(pair)
        seen = [rotate(grown_x, grown_y, -heading % 4) for heading in range(4)]
        found = []
        for number, (right, up, heading, own) in enumerate(self.growth.firsts[letter]):
            half_x = seen[heading][0] - right
            half_y = seen[heading][1] - up
            half_turn = (turn - heading) % 4
            a, b, most = self.half_discs[half_turn]
            if (2 * half_x + a) * (2 * half_x + a) + (2 * half_y + b) * (2 * half_y + b) <= most:
                found.append((number, (half_x, half_y, own, half_turn, other)))
        return found

    def halves(self, pair):
        """The half-grown pairs by themselves."""
        return [half for _, half in self.numbered_halves(pair)]

    def wholes(self, half):
        """The near pairs that a half-grown pair becomes, one for each stroke."""
        x, y, letter, turn, other = half
        twice_x = 2 * x
        twice_y = 2 * y
        most = self.most
        return [(x + right, y + up, letter, heading, own)
                for a, b, right, up, heading, own in self.seconds[other, turn]
                if (twice_x + a) * (twice_x + a) + (twice_y + b) * (twice_y + b) <= most]
