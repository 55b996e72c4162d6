"""Crossingstold: alerts for moving things, each moment exactly."""
