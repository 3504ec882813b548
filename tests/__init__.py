"""Tests of undertwo."""
