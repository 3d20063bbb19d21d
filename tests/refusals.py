"""What every test of a refusal asks for."""

from onestep.errors import NoPlace, NoSize, NoStep, NoThing, StepError

REFUSALS = (NoSize, NoPlace, NoStep, NoThing)


def check_refused(case, refusal, function, *arguments):
    """The call is refused with this class, and with no other class of refusals."""
    with case.assertRaises(ValueError) as caught:
        function(*arguments)
    error = caught.exception
    case.assertIs(type(error), refusal)
    case.assertIsInstance(error, StepError)
    case.assertEqual([kind for kind in REFUSALS if isinstance(error, kind)], [refusal])
