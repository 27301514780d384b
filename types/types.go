// Package types names the types of what a condition tells.
package types

import "gavel/api"

// Type of a value.
type Type int

const (
	Wrong Type = iota // of what has no type
	Number
	Truth
	Member
)

// OfField is the type of a field, by its number.
func OfField(field int) Type {
	switch {
	case field <= api.FieldWhen:
		return Number
	case field <= api.FieldWants:
		return Member
	}
	return Truth
}
