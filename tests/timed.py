"""A case whose tests fail, instead of going on for ever, if something does not end, or takes long."""

import signal
import time
import unittest

MOST_SECONDS = 120
QUICK_SECONDS = 30


class TimedCase(unittest.TestCase):
    def setUp(self):
        def stop(number, frame):
            raise AssertionError("this takes too long")

        self.elder = signal.signal(signal.SIGALRM, stop)
        signal.alarm(MOST_SECONDS)

    def tearDown(self):
        signal.alarm(0)
        signal.signal(signal.SIGALRM, self.elder)

    def quick(self, call, *given):
        """Return what a call returns, or the error that it raises, if it comes within seconds."""
        begin = time.monotonic()
        try:
            found = call(*given)
        except ValueError as error:
            found = error
        self.assertLess(time.monotonic() - begin, QUICK_SECONDS)
        return found
