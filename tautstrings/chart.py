"""The chart: the marks and the tracks that a list of calls has laid."""


class Chart:
    """Marks are places; tracks are lists of places, which are replaced whole and never changed."""

    def __init__(self):
        self.marks = []
        self.tracks = []

    def wipe(self):
        self.marks = []
        self.tracks = []

    def has_track(self, t):
        return 0 <= t < len(self.tracks)

    def new_mark(self, place):
        self.marks.append(place)
        return len(self.marks) - 1

    def new_track(self, places):
        self.tracks.append(places)
        return len(self.tracks) - 1
