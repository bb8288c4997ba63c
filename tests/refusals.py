"""What the tests of refusals have in common."""

from markrun.errors import BadNumber, BadState, BadText, BadWords, NoAddress, NoLabel, RunError

REFUSALS = (BadNumber, BadText, NoLabel, BadWords, BadState, NoAddress)


def assert_refused(case, refusal, asked, *given, **named):
    """The call is refused by just this one of the six, which is a RunError and a ValueError."""
    with case.assertRaises(ValueError) as caught:
        asked(*given, **named)
    case.assertIsInstance(caught.exception, RunError)
    met = [one for one in REFUSALS if isinstance(caught.exception, one)]
    case.assertEqual(met, [refusal])
