/-
  Facts on type assertions and methods at the dynamic types that the errors of the laws have: 24 Errno, 40 *Step, 43 other, 93 shell, 94 *errorString.
-/
import Derived.Test.YtoobblofblodnaaDoorAs
namespace Go.Proofs.YtoobblofblodnaaDoor
open Go.RowKit Go.Extern.Stop Go.Stop Go.Extern

theorem tA24_79 (v : Value) (w : World) : (Instr.typeAssert (.iface 24 v) 27 79 true).run Tryd.prog w = .ok (.tuple #[.nilIface, .bool false]) w := run_typeAssert_lacksB Tryd.underlying79 (by kernel_rfl) (by kernel_rfl) v 27 w
theorem tA40_79 (v : Value) (w : World) : (Instr.typeAssert (.iface 40 v) 27 79 true).run Tryd.prog w = .ok (.tuple #[.iface 40 v, .bool true]) w := run_typeAssert_hasB Tryd.underlying79 (by kernel_rfl) v 27 w
theorem tA43_79 (v : Value) (w : World) : (Instr.typeAssert (.iface 43 v) 27 79 true).run Tryd.prog w = .ok (.tuple #[.iface 43 v, .bool true]) w := run_typeAssert_hasB Tryd.underlying79 (by kernel_rfl) v 27 w
theorem tA93_79 (v : Value) (w : World) : (Instr.typeAssert (.iface 93 v) 27 79 true).run Tryd.prog w = .ok (.tuple #[.nilIface, .bool false]) w := run_typeAssert_lacksB Tryd.underlying79 (by kernel_rfl) (by kernel_rfl) v 27 w
theorem tA94_79 (v : Value) (w : World) : (Instr.typeAssert (.iface 94 v) 27 79 true).run Tryd.prog w = .ok (.tuple #[.nilIface, .bool false]) w := run_typeAssert_lacksB Tryd.underlying79 (by kernel_rfl) (by kernel_rfl) v 27 w
theorem tA24_89 (v : Value) (w : World) : (Instr.typeAssert (.iface 24 v) 27 89 true).run Tryd.prog w = .ok (.tuple #[.nilIface, .bool false]) w := run_typeAssert_lacksB Tryd.underlying89 (by kernel_rfl) (by kernel_rfl) v 27 w
theorem tA40_89 (v : Value) (w : World) : (Instr.typeAssert (.iface 40 v) 27 89 true).run Tryd.prog w = .ok (.tuple #[.iface 40 v, .bool true]) w := run_typeAssert_hasB Tryd.underlying89 (by kernel_rfl) v 27 w
theorem tA43_89 (v : Value) (w : World) : (Instr.typeAssert (.iface 43 v) 27 89 true).run Tryd.prog w = .ok (.tuple #[.iface 43 v, .bool true]) w := run_typeAssert_hasB Tryd.underlying89 (by kernel_rfl) v 27 w
theorem tA93_89 (v : Value) (w : World) : (Instr.typeAssert (.iface 93 v) 27 89 true).run Tryd.prog w = .ok (.tuple #[.nilIface, .bool false]) w := run_typeAssert_lacksB Tryd.underlying89 (by kernel_rfl) (by kernel_rfl) v 27 w
theorem tA94_89 (v : Value) (w : World) : (Instr.typeAssert (.iface 94 v) 27 89 true).run Tryd.prog w = .ok (.tuple #[.nilIface, .bool false]) w := run_typeAssert_lacksB Tryd.underlying89 (by kernel_rfl) (by kernel_rfl) v 27 w
theorem tA24_90 (v : Value) (w : World) : (Instr.typeAssert (.iface 24 v) 27 90 true).run Tryd.prog w = .ok (.tuple #[.nilIface, .bool false]) w := run_typeAssert_lacksB Tryd.underlying90 (by kernel_rfl) (by kernel_rfl) v 27 w
theorem tA40_90 (v : Value) (w : World) : (Instr.typeAssert (.iface 40 v) 27 90 true).run Tryd.prog w = .ok (.tuple #[.nilIface, .bool false]) w := run_typeAssert_lacksB Tryd.underlying90 (by kernel_rfl) (by kernel_rfl) v 27 w
theorem tA43_90 (v : Value) (w : World) : (Instr.typeAssert (.iface 43 v) 27 90 true).run Tryd.prog w = .ok (.tuple #[.nilIface, .bool false]) w := run_typeAssert_lacksB Tryd.underlying90 (by kernel_rfl) (by kernel_rfl) v 27 w
theorem tA93_90 (v : Value) (w : World) : (Instr.typeAssert (.iface 93 v) 27 90 true).run Tryd.prog w = .ok (.tuple #[.nilIface, .bool false]) w := run_typeAssert_lacksB Tryd.underlying90 (by kernel_rfl) (by kernel_rfl) v 27 w
theorem tA94_90 (v : Value) (w : World) : (Instr.typeAssert (.iface 94 v) 27 90 true).run Tryd.prog w = .ok (.tuple #[.nilIface, .bool false]) w := run_typeAssert_lacksB Tryd.underlying90 (by kernel_rfl) (by kernel_rfl) v 27 w
theorem tA24_91 (v : Value) (w : World) : (Instr.typeAssert (.iface 24 v) 27 91 true).run Tryd.prog w = .ok (.tuple #[.nilIface, .bool false]) w := run_typeAssert_lacksB Tryd.underlying91 (by kernel_rfl) (by kernel_rfl) v 27 w
theorem tA40_91 (v : Value) (w : World) : (Instr.typeAssert (.iface 40 v) 27 91 true).run Tryd.prog w = .ok (.tuple #[.nilIface, .bool false]) w := run_typeAssert_lacksB Tryd.underlying91 (by kernel_rfl) (by kernel_rfl) v 27 w
theorem tA43_91 (v : Value) (w : World) : (Instr.typeAssert (.iface 43 v) 27 91 true).run Tryd.prog w = .ok (.tuple #[.nilIface, .bool false]) w := run_typeAssert_lacksB Tryd.underlying91 (by kernel_rfl) (by kernel_rfl) v 27 w
theorem tA93_91 (v : Value) (w : World) : (Instr.typeAssert (.iface 93 v) 27 91 true).run Tryd.prog w = .ok (.tuple #[.nilIface, .bool false]) w := run_typeAssert_lacksB Tryd.underlying91 (by kernel_rfl) (by kernel_rfl) v 27 w
theorem tA94_91 (v : Value) (w : World) : (Instr.typeAssert (.iface 94 v) 27 91 true).run Tryd.prog w = .ok (.tuple #[.nilIface, .bool false]) w := run_typeAssert_lacksB Tryd.underlying91 (by kernel_rfl) (by kernel_rfl) v 27 w
theorem tA24_100 (v : Value) (w : World) : (Instr.typeAssert (.iface 24 v) 27 100 true).run Tryd.prog w = .ok (.tuple #[.nilIface, .bool false]) w := run_typeAssert_lacksB Tryd.underlying100 (by kernel_rfl) (by kernel_rfl) v 27 w
theorem tA40_100 (v : Value) (w : World) : (Instr.typeAssert (.iface 40 v) 27 100 true).run Tryd.prog w = .ok (.tuple #[.nilIface, .bool false]) w := run_typeAssert_lacksB Tryd.underlying100 (by kernel_rfl) (by kernel_rfl) v 27 w
theorem tA43_100 (v : Value) (w : World) : (Instr.typeAssert (.iface 43 v) 27 100 true).run Tryd.prog w = .ok (.tuple #[.nilIface, .bool false]) w := run_typeAssert_lacksB Tryd.underlying100 (by kernel_rfl) (by kernel_rfl) v 27 w
theorem tA93_100 (v : Value) (w : World) : (Instr.typeAssert (.iface 93 v) 27 100 true).run Tryd.prog w = .ok (.tuple #[.iface 93 v, .bool true]) w := run_typeAssert_hasB Tryd.underlying100 (by kernel_rfl) v 27 w
theorem tA94_100 (v : Value) (w : World) : (Instr.typeAssert (.iface 94 v) 27 100 true).run Tryd.prog w = .ok (.tuple #[.nilIface, .bool false]) w := run_typeAssert_lacksB Tryd.underlying100 (by kernel_rfl) (by kernel_rfl) v 27 w
theorem tA24_106 (v : Value) (w : World) : (Instr.typeAssert (.iface 24 v) 27 106 true).run Tryd.prog w = .ok (.tuple #[.nilIface, .bool false]) w := run_typeAssert_lacksB Tryd.underlying106 (by kernel_rfl) (by kernel_rfl) v 27 w
theorem tA40_106 (v : Value) (w : World) : (Instr.typeAssert (.iface 40 v) 27 106 true).run Tryd.prog w = .ok (.tuple #[.nilIface, .bool false]) w := run_typeAssert_lacksB Tryd.underlying106 (by kernel_rfl) (by kernel_rfl) v 27 w
theorem tA43_106 (v : Value) (w : World) : (Instr.typeAssert (.iface 43 v) 27 106 true).run Tryd.prog w = .ok (.tuple #[.nilIface, .bool false]) w := run_typeAssert_lacksB Tryd.underlying106 (by kernel_rfl) (by kernel_rfl) v 27 w
theorem tA93_106 (v : Value) (w : World) : (Instr.typeAssert (.iface 93 v) 27 106 true).run Tryd.prog w = .ok (.tuple #[.iface 93 v, .bool true]) w := run_typeAssert_hasB Tryd.underlying106 (by kernel_rfl) v 27 w
theorem tA94_106 (v : Value) (w : World) : (Instr.typeAssert (.iface 94 v) 27 106 true).run Tryd.prog w = .ok (.tuple #[.nilIface, .bool false]) w := run_typeAssert_lacksB Tryd.underlying106 (by kernel_rfl) (by kernel_rfl) v 27 w
theorem tA24_40 (v : Value) (w : World) : (Instr.typeAssert (.iface 24 v) 27 40 true).run Tryd.prog w = .ok (.tuple #[.pointer none, .bool false]) w := by kernel_rfl
theorem tA40_40 (v : Value) (w : World) : (Instr.typeAssert (.iface 40 v) 27 40 true).run Tryd.prog w = .ok (.tuple #[v, .bool true]) w := by kernel_rfl
theorem tA43_40 (v : Value) (w : World) : (Instr.typeAssert (.iface 43 v) 27 40 true).run Tryd.prog w = .ok (.tuple #[.pointer none, .bool false]) w := by kernel_rfl
theorem tA93_40 (v : Value) (w : World) : (Instr.typeAssert (.iface 93 v) 27 40 true).run Tryd.prog w = .ok (.tuple #[.pointer none, .bool false]) w := by kernel_rfl
theorem tA94_40 (v : Value) (w : World) : (Instr.typeAssert (.iface 94 v) 27 40 true).run Tryd.prog w = .ok (.tuple #[.pointer none, .bool false]) w := by kernel_rfl
end Go.Proofs.YtoobblofblodnaaDoor
