"""Rimsteps: pictures told by the steps round their rims."""
