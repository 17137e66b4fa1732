"""A course: deeds done one by one in a house until the named cloths are met."""

from waxcloth.errors import NothingLeft


class Course:
    """The house itself, which others may go on working in, and the names that the course is for."""

    def __init__(self, house, names):
        self.house = house
        self.named = list(names)
        self.stepped = []

    def left(self):
        """Tell the deeds that are left as all stands now."""
        # It is asked of the house each time, since others may have done deeds there or taken some back.
        return self.house.plan(self.named)

    def step(self):
        """Do the first deed of what is left in the house, and tell it."""
        deeds = self.left()
        if not deeds:
            raise NothingLeft("the cloths are met")
        self.house.do(deeds[0])
        self.stepped.append(deeds[0])
        return deeds[0]

    def steps(self):
        """Tell the deeds of the steps so far, also of those that were taken back."""
        return list(self.stepped)
