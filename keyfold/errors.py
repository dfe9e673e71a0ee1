"""The refusals of the program."""


# Any refusal; a caller who takes ValueError takes these too.
class FoldError(ValueError):
    pass


class NoKey(FoldError):
    pass


class NoText(FoldError):
    pass
