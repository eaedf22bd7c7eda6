"""The checker of papers of lists."""

from pollproof.ways import Checker


class ListsChecker(Checker):
    def right(self, sheet, paper):
        return paper == self.way.counted(sheet)
