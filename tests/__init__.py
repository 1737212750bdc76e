"""The tests of likeholes."""
