"""Nevertakenback: courts far apart, seen late and softly, so that nothing shown is ever taken back."""
