"""Calm: hands at shared boxes, and remarks that hold."""
