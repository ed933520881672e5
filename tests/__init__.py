"""Tests of nevertakenback."""
