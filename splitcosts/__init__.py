"""Splitcosts: aids for linear equations, and what they cost for all errors."""
