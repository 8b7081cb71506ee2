/- A request's block read as a whole, and such a read in a drawn region. -/
import Derived.Test.YthnogdodlhkldaaGreatDoorChH
namespace Go.Proofs.YthnogdodlhkldaaGreatDoor
open Go.RowKit

set_option maxRecDepth 100000 in
set_option maxHeartbeats 4000000 in
theorem RX.load {w : World} {R : Nat} {rk : Int} {rt : ByteArray} {o : Bool} {s2 h2 : ByteArray} {p : Int} {pa2 q2 : ByteArray} {mv : Bool} {rn : ByteArray} {pr : Bool} {o3 : Bool} {s3 h3 : ByteArray} {p3 : Int} {pa3 q3 : ByteArray} (a : RX w R rk rt o s2 h2 p pa2 q2 mv rn pr o3 s3 h3 p3 pa3 q3) : (Instr.loadAt 42 (.pointer (some ⟨R, 0, none⟩))).run Tryz.prog w = .ok (reqV rk rt o s2 h2 p pa2 q2 mv rn pr o3 s3 h3 p3 pa3 q3) w := by
  unfold reqV
  have d0 := a.c0
  have d1 := a.c1
  have d2 := a.c2
  have d3 := a.c3
  have d4 := a.c4
  have d5 := a.c5
  have d6 := a.c6
  have d7 := a.c7
  have d8 := a.c8
  have d9 := a.c9
  have d10 := a.c10
  have d11 := a.c11
  have d12 := a.c12
  have d13 := a.c13
  have d14 := a.c14
  have d15 := a.c15
  have d16 := a.c16
  go_simp
theorem quiet_load {C : World → Prop} {w : World} {A : Act} {o : Oper} {t : TypeId} {a : Operand} {p v : Value} (ho : o.op = .load t a) (hp : A.eval a = p) (h : (Instr.loadAt t p).run Tryz.prog w = .ok v w) : Oper.quietAt Tryz.prog o A C w v := by
  subst hp
  obtain ⟨dst, op, ty, pos, after, guard⟩ := o
  cases ho
  have e : (execOp A.eval { dst := dst, op := .load t a, type := ty, pos := pos, after := after, guard := guard }).run Tryz.prog w = .ok (.value v) w := by
    show (Instr.loadAt t (A.eval a) >>= fun x => (pure (Next.value x) : Sem Next)).run Tryz.prog w = _
    rw [Go.Sem.run_bind, h]
    rfl
  unfold Oper.quietAt
  rw [e]
  exact ⟨rfl, rfl⟩
end Go.Proofs.YthnogdodlhkldaaGreatDoor
