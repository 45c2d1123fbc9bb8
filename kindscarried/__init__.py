"""Kindscarried: a compiler that keeps kinds down to the code."""
