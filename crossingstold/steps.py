"""Steps: when a thing on a leg is in a REGION, and when two things on their legs are near; each reckoned once."""
from crossingstold.cuts import in_any
from crossingstold.legs import leg_in, legs_near, legs_of, legs_together
from crossingstold.shapes import words_of_region


class Steps:
    """The steps that were used so far, by what they are."""

    def __init__(self):
        self.known = {}

    def inside(self, region, leg):
        """The STRETCHES of all moments of a leg at which its place lies in the REGION."""
        # The text stands for the REGION, which may be nested too deep for a key.
        key = ("in", words_of_region(region), *leg)
        if key not in self.known:
            self.known[key] = leg_in(region, leg)
        return self.known[key]

    def together(self, square, leg, other):
        """The STRETCHES of all moments of both legs at which the square of the distance is at most this."""
        key = ("near", square, *leg, *other)
        if key not in self.known:
            self.known[key] = legs_near(square, leg, other)
        return self.known[key]

    def copied(self):
        """Other Steps, of which the same are known."""
        twin = Steps()
        twin.known = {key: self.known[key] for key in self.known}
        return twin


def way_steps(steps, region, way):
    """The STRETCHES of all moments of a WAY at which its place lies in the REGION."""
    return in_any([steps.inside(region, leg) for leg in legs_of(way)])


def near_steps(steps, square, one, other):
    """The STRETCHES of all moments of both WAYS at which the square of the distance is at most this."""
    return in_any([steps.together(square, leg, beside) for leg, beside in legs_together(one, other)])
