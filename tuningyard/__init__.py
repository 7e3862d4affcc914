"""Tuningyard: tones as exact products of powers, and tunings told with papers."""
