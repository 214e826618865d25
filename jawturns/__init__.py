"""Jawturns: plans that turn a part right without looking at it."""
