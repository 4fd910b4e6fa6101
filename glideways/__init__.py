"""Glideways: motions by time, exactly."""
