package markup

import (
	"stencil/api"
	"stencil/ascii"
)

// content is where the end of a tag leads: the mode that the tag's name asks for.
const content = api.CsStar + 1

// letter stands for all letters in the tables.
const letter = "a"

// step: a mode, bytes, and the mode to which these lead.
type step struct {
	in mode
	on string
	to mode
}

// markupSteps are those of the modes ahead of Soft.
var markupSteps = [...]step{
	{api.Text, "<", api.TagOpen},
	{api.TagOpen, letter, api.TagName},
	{api.TagOpen, "/", api.EndOpen},
	{api.TagOpen, "!", api.Bang},
	{api.TagName, ascii.Blanks + "/", api.InTag},
	{api.TagName, ">", content},
	{api.InTag, ascii.Blanks + "/", api.InTag},
	{api.InTag, ">", content},
	{api.AttrName, ascii.Blanks, api.AfterAt},
	{api.AttrName, "=", api.BeforeIs},
	{api.AttrName, "/", api.InTag},
	{api.AttrName, ">", content},
	{api.AfterAt, ascii.Blanks, api.AfterAt},
	{api.AfterAt, "=", api.BeforeIs},
	{api.AfterAt, "/", api.InTag},
	{api.AfterAt, ">", content},
	{api.BeforeIs, ascii.Blanks, api.BeforeIs},
	{api.BeforeIs, `"`, api.Double},
	{api.BeforeIs, "'", api.Single},
	{api.BeforeIs, ">", content},
	{api.Double, `"`, api.InTag},
	{api.Single, "'", api.InTag},
	{api.Bare, ascii.Blanks, api.InTag},
	{api.Bare, ">", content},
	{api.EndOpen, letter, api.EndName},
	{api.EndOpen, ">", api.Text},
	{api.EndName, ">", api.Text},
	{api.Bang, "-", api.BangDash},
	{api.Bang, ">", api.Text},
	{api.BangDash, "-", api.Comment},
	{api.BangDash, ">", api.Text},
	{api.Comment, "-", api.Dash},
	{api.Dash, "-", api.DashDash},
	{api.DashDash, ">", api.Text},
	{api.DashDash, "-", api.DashDash},
	{api.Bogus, ">", api.Text},
}

// contentSteps are those of the modes from Soft on.
var contentSteps = [...]step{
	{api.Code, `"`, api.JsDouble},
	{api.Code, "'", api.JsSingle},
	{api.Code, "`", api.JsTick},
	{api.Code, "/", api.JsSlash},
	{api.JsDouble, "\"\n", api.Code},
	{api.JsSingle, "'\n", api.Code},
	{api.JsTick, "`", api.Code},
	{api.JsSlash, "/", api.JsLine},
	{api.JsSlash, "*", api.JsBlock},
	{api.JsLine, "\n", api.Code},
	{api.JsBlock, "*", api.JsStar},
	{api.JsStar, "/", api.Code},
	{api.JsStar, "*", api.JsStar},
	{api.Sheet, `"`, api.CsDouble},
	{api.Sheet, "'", api.CsSingle},
	{api.Sheet, "/", api.CsSlash},
	{api.CsDouble, "\"\n", api.Sheet},
	{api.CsSingle, "'\n", api.Sheet},
	{api.CsSlash, "*", api.CsBlock},
	{api.CsBlock, "*", api.CsStar},
	{api.CsStar, "/", api.Sheet},
	{api.CsStar, "*", api.CsStar},
}

// readIn is the mode in which any other byte is read.
var readIn = [content]mode{
	api.TagOpen: api.Text,
	api.JsSlash: api.Code,
	api.CsSlash: api.Sheet,
}

// others is the mode to which any other byte leads, where one does not stay.
var others = [content]mode{
	api.InTag:    api.AttrName,
	api.AfterAt:  api.AttrName,
	api.BeforeIs: api.Bare,
	api.EndOpen:  api.Bogus,
	api.Bang:     api.Bogus,
	api.BangDash: api.Bogus,
	api.Dash:     api.Comment,
	api.DashDash: api.Comment,
	api.JsStar:   api.JsBlock,
	api.CsStar:   api.CsBlock,
}

// escapes tells where a backslash takes the next byte out of the table.
var escapes = [content]bool{
	api.JsDouble: true,
	api.JsSingle: true,
	api.JsTick:   true,
	api.CsDouble: true,
	api.CsSingle: true,
}

// longEscape: an escape that goes on with bytes of hex.
type longEscape struct {
	from, to mode   // the modes that have it
	on       string // the bytes that it begins with, behind the backslash
	hexLeft  int    // how many bytes of hex may follow these
}

var longEscapes = [...]longEscape{
	{api.JsDouble, api.JsTick, "x", 2},
	{api.JsDouble, api.JsTick, "u", 4},
	{api.CsDouble, api.CsSingle, ascii.Hex, 5},
}

// element: a name of which the content is not Text.
type element struct {
	name    string
	content mode
}

var elements = [...]element{
	{"title", api.Soft},
	{"textarea", api.Soft},
	{"script", api.Code},
	{"style", api.Sheet},
}

// The kinds of attributes.
const (
	plain = iota
	link
	barred
)

// attribute: a name of a kind other than plain.
type attribute struct {
	name  string
	begin bool // all names that begin so are meant
	kind  int
}

var attributes = [...]attribute{
	{"href", false, link},
	{"src", false, link},
	{"action", false, link},
	{"style", false, barred},
	{"on", true, barred},
}
