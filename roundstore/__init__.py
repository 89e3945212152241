"""Roundstore: a store whose versions bear numbers that go round."""
