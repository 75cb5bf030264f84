"""The errors that the program raises."""


class StructureFault(ValueError):
    """Below it stand all errors of the program."""


class TextFault(StructureFault):
    """A text is none of a formula: place is the first sign with which no formula goes on."""

    def __init__(self, place):
        super().__init__(f"no formula goes on at place {place}")
        self.place = place
