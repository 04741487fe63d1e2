"""Sureprices: price rules decided for all baskets of any size."""
