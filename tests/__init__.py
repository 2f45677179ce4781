"""Tests of dawnway, run by .ci/run."""
