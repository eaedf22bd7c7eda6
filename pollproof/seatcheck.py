"""The checker of papers of seats by handed-on votes."""

from pollproof.ways import Checker


class SeatsChecker(Checker):
    def right(self, sheet, paper):
        return paper == self.way.counted(sheet)
