package upkeep

import (
	"iter"

	"weir/addr"
	"weir/api"
	"weir/box"
	"weir/desk"
	"weir/flow"
	"weir/hole"
	"weir/icmp"
	"weir/ip4"
	"weir/ip6"
	"weir/l4"
	"weir/link"
	"weir/neigh"
	"weir/packet"
	"weir/queue"
	"weir/reasm"
	"weir/ring"
	"weir/route"
	"weir/rules"
	"weir/split"
	"weir/sum"
	"weir/view"
)

// The calls that the document lists, with their signatures: if one is not as it says, this file does not compile.

// view
var (
	_ func([]byte, int, int) (uint64, api.Errno)        = view.Uint
	_ func([]byte, int, ...int) ([]int, int, api.Errno) = view.Fields
	_ func([]int, []int) ([]byte, api.Errno)            = view.Pack
	_ func([]byte, int, int) ([]byte, api.Errno)        = view.Window
	_ func([]byte) *view.Cursor                         = view.At
	_ func(*view.Cursor, int) (uint64, api.Errno)       = (*view.Cursor).Uint
	_ func(*view.Cursor, int) ([]byte, api.Errno)       = (*view.Cursor).Window
	_ func(*view.Cursor, int) api.Errno                 = (*view.Cursor).Skip
	_ func(*view.Cursor) int                            = (*view.Cursor).Left
	_ func(*view.Cursor) int                            = (*view.Cursor).Place
	_ func(int) (*view.Builder, api.Errno)              = view.NewBuilder
	_ func(*view.Builder, int, uint64) api.Errno        = (*view.Builder).Put
	_ func(*view.Builder, ...[]byte) api.Errno          = (*view.Builder).Bytes
	_ func(*view.Builder, int, int, uint64) api.Errno   = (*view.Builder).Patch
	_ func(*view.Builder) int                           = (*view.Builder).Len
	_ func(*view.Builder) []byte                        = (*view.Builder).Done
)

// sum
var (
	_ func(...[]byte) int                                = sum.Sum
	_ func(...[]byte) int                                = sum.Check
	_ func(...[]byte) bool                               = sum.Good
	_ func(api.IP, api.IP, int, int) ([]byte, api.Errno) = sum.Pseudo
	_ func(int, int, int) (int, api.Errno)               = sum.Fix
	_ func(int, []byte, []byte) (int, api.Errno)         = sum.FixBytes
)

// ring
var (
	_ func(int, int, int, int) (*ring.Port, api.Errno) = ring.New
	_ func(*ring.Port, int) int                        = (*ring.Port).Refill
	_ func(*ring.Port, []byte) api.Errno               = (*ring.Port).Arrive
	_ func(*ring.Port) (int, []byte, bool)             = (*ring.Port).Poll
	_ func(*ring.Port) (int, []byte, api.Errno)        = (*ring.Port).Take
	_ func(*ring.Port, int) ([]byte, api.Errno)        = (*ring.Port).Buffer
	_ func(*ring.Port, int) api.Errno                  = (*ring.Port).Release
	_ func(*ring.Port, int, int) api.Errno             = (*ring.Port).Send
	_ func(*ring.Port) ([]byte, bool)                  = (*ring.Port).Drain
	_ func(*ring.Port) []int                           = (*ring.Port).Places
	_ func(*ring.Port) api.RingStat                    = (*ring.Port).Stat
)

// addr
var (
	_ func(string) (api.IP, api.Errno, int)     = addr.ParseIP
	_ func(api.IP) (string, api.Errno)          = addr.PrintIP
	_ func(string) (api.Prefix, api.Errno, int) = addr.ParsePrefix
	_ func(api.Prefix) (string, api.Errno)      = addr.PrintPrefix
	_ func(string) (api.Mac, api.Errno, int)    = addr.ParseMac
	_ func(api.Mac) string                      = addr.PrintMac
	_ func(api.IP) bool                         = addr.Valid
	_ func(api.Prefix) api.Errno                = addr.ValidPrefix
	_ func(api.IP, int) (api.IP, api.Errno)     = addr.Mask
	_ func(api.Prefix, api.IP) bool             = addr.Contains
	_ func(api.IP) int                          = addr.Class
	_ func(api.IP, api.IP) bool                 = addr.Less
	_ func(api.IP) (api.Mac, api.Errno)         = addr.GroupMac
	_ func(api.IP) (api.IP, api.Errno)          = addr.Solicited
)

// link
var (
	_ func([]byte) (api.Frame, api.Errno) = link.Parse
	_ func(api.Frame) ([]byte, api.Errno) = link.Serialise
	_ func(api.Frame) api.Errno           = link.Check
	_ func([]byte) []byte                 = link.Pad
	_ func(api.Mac) bool                  = link.Group
	_ func([]byte) (api.Arp, api.Errno)   = link.ParseArp
	_ func(api.Arp) ([]byte, api.Errno)   = link.PutArp
)

// ip4
var (
	_ func([]byte) (api.Ip4, api.Errno)   = ip4.Parse
	_ func(api.Ip4) ([]byte, api.Errno)   = ip4.Serialise
	_ func(api.Ip4) api.Errno             = ip4.Check
	_ func([]byte) bool                   = ip4.Canonical
	_ func([]byte) ([]api.Opt, api.Errno) = ip4.Options
	_ func([]api.Opt) ([]byte, api.Errno) = ip4.PutOptions
	_ func([]byte) api.Errno              = ip4.Hop
)

// ip6
var (
	_ func([]byte) (api.Ip6, api.Errno)                     = ip6.Parse
	_ func(api.Ip6) ([]byte, api.Errno)                     = ip6.Serialise
	_ func(api.Ip6) api.Errno                               = ip6.Check
	_ func(api.Ip6) int                                     = ip6.Size
	_ func([]byte) bool                                     = ip6.Canonical
	_ func(int, []byte) ([]api.Ext, int, []byte, api.Errno) = ip6.Chain
	_ func([]api.Ext, int) ([]byte, api.Errno)              = ip6.PutChain
	_ func([]byte) api.Errno                                = ip6.Hop
)

// icmp
var (
	_ func(int, api.IP, api.IP, []byte) (api.Icmp, api.Errno) = icmp.Parse
	_ func(api.IP, api.IP, api.Icmp) ([]byte, api.Errno)      = icmp.Serialise
	_ func(api.Icmp) api.Errno                                = icmp.Check
	_ func(api.Trouble, api.Ip4) (api.Icmp, bool)             = icmp.Complain4
	_ func(api.Trouble, api.Ip6) (api.Icmp, bool)             = icmp.Complain6
	_ func(api.Icmp) (api.ND, api.Errno)                      = icmp.ParseND
	_ func(api.ND) (api.Icmp, api.Errno)                      = icmp.PutND
)

// l4
var (
	_ func(api.IP, api.IP, []byte) (api.Udp, api.Errno) = l4.ParseUdp
	_ func(api.IP, api.IP, api.Udp) ([]byte, api.Errno) = l4.PutUdp
	_ func(int, api.Udp) api.Errno                      = l4.CheckUdp
	_ func(api.IP, api.IP, []byte) (api.Tcp, api.Errno) = l4.ParseTcp
	_ func(api.IP, api.IP, api.Tcp) ([]byte, api.Errno) = l4.PutTcp
	_ func(api.Tcp) api.Errno                           = l4.CheckTcp
	_ func([]byte) ([]api.Opt, api.Errno)               = l4.TcpOptions
	_ func([]api.Opt) ([]byte, api.Errno)               = l4.PutTcpOptions
	_ func(api.Tcp) (int, bool)                         = l4.Mss
	_ func(api.Tcp, int) api.Tcp                        = l4.Clamp
)

// packet
var (
	_ func([]byte) (api.Packet, api.Errno)                        = packet.Parse
	_ func(api.Packet) ([]byte, api.Errno)                        = packet.Serialise
	_ func(api.Packet) api.Errno                                  = packet.Check
	_ func([]byte) ([]byte, api.Errno)                            = packet.Normal
	_ func(api.Packet, api.Packet) bool                           = packet.Same
	_ func(api.Packet) (api.Packet, api.Errno)                    = packet.Open
	_ func(api.Packet) (api.Packet, api.Errno)                    = packet.Close
	_ func(api.Packet) (api.Tuple, bool)                          = packet.Tuple
	_ func(api.Tuple) api.Tuple                                   = packet.Reverse
	_ func(int, ...[]byte) ([]api.Packet, []api.Errno, api.Errno) = packet.ParseAll
)

// hole
var (
	_ func(int) (*hole.Holes, api.Errno)                        = hole.New
	_ func(*hole.Holes, int, []byte, bool) (api.Fit, api.Errno) = (*hole.Holes).Put
	_ func(*hole.Holes) [][2]int                                = (*hole.Holes).Gaps
	_ func(*hole.Holes) (int, bool)                             = (*hole.Holes).Total
	_ func(*hole.Holes) bool                                    = (*hole.Holes).Whole
	_ func(*hole.Holes) ([]byte, bool)                          = (*hole.Holes).Bytes
	_ func(*hole.Holes) int                                     = (*hole.Holes).Held
)

// reasm
var (
	_ func(int, int) (*reasm.Table, api.Errno)                   = reasm.New
	_ func(*reasm.Table, api.Ip4) (api.Ip4, int, api.Errno)      = (*reasm.Table).Offer4
	_ func(*reasm.Table, api.Ip6) (api.Ip6, int, int, api.Errno) = (*reasm.Table).Offer6
	_ func(*reasm.Table) []api.Late                              = (*reasm.Table).Tick
	_ func(*reasm.Table) int                                     = (*reasm.Table).Live
	_ func(*reasm.Table) int                                     = (*reasm.Table).Held
	_ func(*reasm.Table) int                                     = (*reasm.Table).Finished
)

// split
var (
	_ func(api.Ip4, int) ([]api.Ip4, api.Errno)      = split.Split4
	_ func(api.Ip6, int, int) ([]api.Ip6, api.Errno) = split.Split6
	_ func(api.Ip4, int) bool                        = split.Fits4
	_ func(api.Ip6, int) bool                        = split.Fits6
)

// route
var (
	_ func() *route.Table                          = route.New
	_ func(*route.Table, api.Route) api.Errno      = (*route.Table).Add
	_ func(*route.Table, api.Prefix) bool          = (*route.Table).Drop
	_ func(*route.Table, api.IP) (api.Route, bool) = (*route.Table).Find
	_ func(*route.Table, api.IP) []api.Route       = (*route.Table).Matches
	_ func(*route.Table) iter.Seq[api.Route]       = (*route.Table).All
	_ func(*route.Table) int                       = (*route.Table).Len
)

// neigh
var (
	_ func(api.NeighConfig) (*neigh.Cache, api.Errno)                  = neigh.New
	_ func(*neigh.Cache, int, api.IP, int) (api.Mac, int, api.Errno)   = (*neigh.Cache).Want
	_ func(*neigh.Cache, int, api.IP, api.Mac, int) ([]int, api.Errno) = (*neigh.Cache).Learn
	_ func(*neigh.Cache) ([]api.Ask, []int)                            = (*neigh.Cache).Tick
	_ func(*neigh.Cache, int, api.IP) (api.Neighbour, bool)            = (*neigh.Cache).Get
	_ func(*neigh.Cache) []api.Neighbour                               = (*neigh.Cache).All
	_ func(*neigh.Cache) int                                           = (*neigh.Cache).Waiting
)

// rules
var (
	_ func(string) (api.Rule, api.Errno, int)           = rules.ParseRule
	_ func(api.Rule) (string, api.Errno)                = rules.PrintRule
	_ func(api.Rule) api.Errno                          = rules.Check
	_ func(...string) (*rules.Set, api.Errno, int, int) = rules.Parse
	_ func(...api.Rule) (*rules.Set, api.Errno, int)    = rules.New
	_ func(*rules.Set) []api.Rule                       = (*rules.Set).Rules
	_ func(*rules.Set) []string                         = (*rules.Set).Lines
	_ func(*rules.Set, int, api.Packet) api.Verdict     = (*rules.Set).Judge
)

// flow
var (
	_ func(api.FlowConfig) (*flow.Table, api.Errno)            = flow.New
	_ func(*flow.Table, api.Tuple, int) (api.Tuple, api.Errno) = (*flow.Table).Out
	_ func(*flow.Table, api.Tuple, int) (api.Tuple, api.Errno) = (*flow.Table).In
	_ func(*flow.Table) int                                    = (*flow.Table).Tick
	_ func(*flow.Table) int                                    = (*flow.Table).Len
	_ func(*flow.Table) []api.Flow                             = (*flow.Table).Dump
	_ func(api.Packet, api.Tuple) (api.Packet, api.Errno)      = flow.Rewrite
)

// queue
var (
	_ func([]api.Class) (*queue.Queue, api.Errno) = queue.New
	_ func(*queue.Queue, int, int, int) api.Errno = (*queue.Queue).Push
	_ func(*queue.Queue) (int, int, bool)         = (*queue.Queue).Pop
	_ func(*queue.Queue) (int, int, bool)         = (*queue.Queue).Peek
	_ func(*queue.Queue)                          = (*queue.Queue).Tick
	_ func(*queue.Queue, int) int                 = (*queue.Queue).Len
	_ func(*queue.Queue, int) int                 = (*queue.Queue).Bytes
)

// box
var (
	_ func(api.Config) (*box.Box, api.Errno) = box.New
	_ func(api.Config) api.Errno             = box.Check
	_ func(*box.Box, int, []byte) api.Errno  = (*box.Box).Arrive
	_ func(*box.Box, int, int) int           = (*box.Box).Refill
	_ func(*box.Box, int) int                = (*box.Box).Poll
	_ func(*box.Box)                         = (*box.Box).Tick
	_ func(*box.Box, int) ([]byte, bool)     = (*box.Box).Drain
	_ func(*box.Box) api.Counts              = (*box.Box).Counts
	_ func(*box.Box) api.Kept                = (*box.Box).Kept
	_ func(*box.Box) []api.Neighbour         = (*box.Box).Neighbours
	_ func(*box.Box) []api.Flow              = (*box.Box).Flows
)

// desk
var (
	_ func(string) (api.Config, api.Errno, int, int) = desk.Config
	_ func(api.Config) (string, api.Errno)           = desk.PrintConfig
	_ func(string, string) (string, api.Errno)       = desk.Run
	_ func(api.Config) (*desk.Desk, api.Errno)       = desk.New
	_ func(*desk.Desk, string) string                = (*desk.Desk).Do
	_ func([]byte) ([]api.Capture, api.Errno, int)   = desk.ReadCapture
	_ func(...api.Capture) ([]byte, api.Errno)       = desk.WriteCapture
)
