"""Tests of breakerrow."""
