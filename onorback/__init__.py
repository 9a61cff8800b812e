"""Onorback: plans for a bench on which any hand may die ahead of any step."""
