"""The tests of everrow."""
