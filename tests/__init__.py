"""Tests of sumsaid."""
