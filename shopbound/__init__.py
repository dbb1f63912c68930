"""Shopbound: schedules of a workshop, and why none is shorter."""
