// Package types names the types of what a condition tells.
package types

// Type of a value.
type Type int

const (
	Wrong Type = iota // of what has no type
	Number
	Truth
	Member
)
