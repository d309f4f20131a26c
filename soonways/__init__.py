"""Fastest ways: how soon a boat can be somewhere, with a proof and a way."""
