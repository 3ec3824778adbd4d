"""The tests of rimsteps."""
