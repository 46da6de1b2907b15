"""The refusals of the program."""


# The one base under which an asker can take any refusal.
class StrideError(ValueError):
    pass


# A text does not write just one expression, or one that is too great or too deep.
class NoTerm(StrideError):
    pass


# A name is free, or a rec has one name twice.
class NoName(StrideError):
    pass


# An expression would have more places than any that is told.
class Wide(StrideError):
    pass
