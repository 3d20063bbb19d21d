"""The refusals."""


class StepError(ValueError):
    pass


class NoSize(StepError):
    pass


class NoPlace(StepError):
    pass


class NoStep(StepError):
    pass


class NoThing(StepError):
    pass
