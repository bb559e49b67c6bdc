"""The tests of stayswithin."""
