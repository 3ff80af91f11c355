"""Benchworth: stretches of time with worths, on so many benches."""
