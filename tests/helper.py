"""What several test files need: how a refusal is held to its class, and how long an answer may take."""

import signal
import unittest

from hostfields import errors

REFUSALS = ("NoBattle", "NoPlan", "NoMix", "NoStream", "NoSide", "NoAlike", "NoNumber", "TooGreat", "NoEven",
            "NoText", "NoRow", "NoName", "NoPlace")

BIG = 10 ** 30 - 1


SECONDS = 60


def late(number, frame):
    raise AssertionError("not told soon")


class HostTest(unittest.TestCase):
    def setUp(self):
        # A test that goes through all plans, or never ends, is to fail and not to hang.
        elder = signal.signal(signal.SIGALRM, late)
        self.addCleanup(signal.signal, signal.SIGALRM, elder)
        signal.alarm(SECONDS)
        self.addCleanup(signal.alarm, 0)

    def refused(self, name, call, *handed):
        """Call, see that it is refused by this class and no other, with nothing changed; tell the error."""
        ahead = repr(handed)
        with self.assertRaises(ValueError, msg=ahead) as caught:
            call(*handed)
        error = caught.exception
        self.assertEqual(ahead, repr(handed))
        self.assertIsInstance(error, errors.HostError, ahead)
        for other in REFUSALS:
            self.assertEqual(isinstance(error, getattr(errors, other)), other == name, (other, ahead))
        return error

    def told(self, call, *handed):
        """Call twice, see that both answers are the same and nothing handed in is changed; tell the answer."""
        ahead = repr(handed)
        answer = call(*handed)
        self.assertEqual(ahead, repr(handed))
        shown = repr(answer)
        self.assertEqual(shown, repr(call(*handed)), ahead)
        return answer

    def tells(self, answer, call, *handed):
        """As told, and see that the answer is this one, of this kind."""
        # repr parts 1 from True and a list from a tuple, == does not part the first.
        self.assertEqual(repr(answer), repr(self.told(call, *handed)), handed)
