"""A case whose tests fail, instead of going on for ever, if something does not end."""

import signal
import unittest

MOST_SECONDS = 120


class TimedCase(unittest.TestCase):
    def setUp(self):
        def stop(number, frame):
            raise AssertionError("this takes too long")

        self.elder = signal.signal(signal.SIGALRM, stop)
        signal.alarm(MOST_SECONDS)

    def tearDown(self):
        signal.alarm(0)
        signal.signal(signal.SIGALRM, self.elder)
