import PyProof.Rows.All
import Wide.All
import OpenK.AllK
import Wide.FinOn
import PyProof.EqAt
import PyProof.EqKinds
import PyProof.TupleCall
import KE.BitLaws
import KE.OsHead
import KE.SpHead
import KE.OsShapes
import KE.OsGo
import Open.SpecLaws
import PyProof.ExcAttrAll.Exception
import PyProof.ExcBaseAll.Exception
import PyProof.ZipIter
import PySem.Challenge.RW_buildtext_s04_same
set_option Elab.async false
set_option linter.all false
set_option maxRecDepth 100000
set_option maxHeartbeats 4000000
open PySem.W (Frag nsIn mroIn findIn fnOf codeIn keepIn isFn makesIn clsIn)
local macro_rules | `(tactic| walk_at "sc") => `(tactic| exact ⟨rfl, rfl, rfl, by decide +kernel, rfl, by decide +kernel, by decide +kernel⟩)
local macro_rules | `(tactic| omega) => `(tactic| lia)
set_option Elab.async false
set_option linter.all false
set_option maxRecDepth 100000
namespace L2
open PySem PySem.Spec PyProof.Rows
abbrev Key := Sum Int Str
def lS : Key -> Value -> Bool
 | .inl k, v => Value.isInt k v
 | .inr x, v => Value.isStrOf x v
def Cr (w : World) : Key -> Int
 | .inl k => hashInt k
 | .inr x => hashStr w x
theorem bn : ∀ {k : Key} {v : Value}, lS k v = true -> (∃ i t, k = Sum.inl i /\ v = Value.int i t) ∨ (∃ x t, k = Sum.inr x /\ v = Value.str x t)
 | .inl i, v, h => by
   obtain ⟨t, e⟩ := Value.isInt_shape (k := i) (v := v) h
   exact .inl ⟨i, t, rfl, e⟩
 | .inr x, v, h => by
   obtain ⟨t, e⟩ := Value.isStrOf_shape (x := x) (v := v) h
   exact .inr ⟨x, t, rfl, e⟩
theorem uE (i : Int) (t : Tok) : lS (.inl i) (.int i t) = true := by simp [lS, Value.isInt]
theorem u4 (x : Str) (t : Tok) : lS (.inr x) (.str x t) = true := by simp [lS, Value.isStrOf]
theorem yT (a b : Int) : decide ((Sum.inl a : Key) = Sum.inl b) = (a == b) := by
 by_cases e : a = b
 ·subst e; simp
 ·have h : ¬ (Sum.inl a : Key) = Sum.inl b := fun q => e (Sum.inl.inj q)
  rw [decide_eq_false h]
  exact (beq_eq_false_iff_ne.mpr e).symm
theorem AQ (a b : Str) : decide ((Sum.inr a : Key) = Sum.inr b) = decide (a = b) := by
 by_cases e : a = b
 ·subst e; simp
 ·have h : ¬ (Sum.inr a : Key) = Sum.inr b := fun q => e (Sum.inr.inj q)
  rw [decide_eq_false h, decide_eq_false e]
theorem AX (a : Int) (b : Str) : decide ((Sum.inl a : Key) = Sum.inr b) = false := decide_eq_false (fun q => nomatch q)
theorem yQ (a : Str) (b : Int) : decide ((Sum.inr a : Key) = Sum.inl b) = false := decide_eq_false (fun q => nomatch q)
def b8 (prog : Program) (w : World) : PySem.KeyKind prog w Key where
 is := lS
 hash := Cr w
 inj := fun v a b ha hb => by
  rcases bn ha with ⟨i, t, rfl, rfl⟩ | ⟨x, t, rfl, rfl⟩
  ·rcases bn hb with ⟨j, u, rfl, e⟩ | ⟨y, u, rfl, e⟩
   ·injection e with e1 _; rw [e1]
   ·exact nomatch e
  ·rcases bn hb with ⟨j, u, rfl, e⟩ | ⟨y, u, rfl, e⟩
   ·exact nomatch e
   ·injection e with e1 _; rw [e1]
 byValue := fun k v h => by
  rcases bn h with ⟨i, t, rfl, rfl⟩ | ⟨x, t, rfl, rfl⟩ <;> rfl
 pyHash := fun hv h => by
  rcases bn hv with ⟨i, t, rfl, rfl⟩ | ⟨x, t, rfl, rfl⟩
  ·exact wpAny_pyHash_int h
  ·exact wpAny_pyHash_str h
 eqBool := fun hu hv h => by
  rcases bn hu with ⟨i, t, rfl, rfl⟩ | ⟨x, t, rfl, rfl⟩
  ·rcases bn hv with ⟨j, u, rfl, rfl⟩ | ⟨y, u, rfl, rfl⟩
   ·rw [yT] at h; exact wpAny_eqBool_int h
   ·rw [AX] at h; exact SeqAt.EqAt.int_str i t y u _ _ _ _ h
  ·rcases bn hv with ⟨j, u, rfl, rfl⟩ | ⟨y, u, rfl, rfl⟩
   ·rw [yQ] at h; exact SeqAt.EqAt.str_int x t j u _ _ _ _ h
   ·rw [AQ] at h; exact wpAny_eqBool_str h
 «strs» := fun k x t v h => by
  rcases bn h with ⟨i, u, rfl, e⟩ | ⟨y, u, rfl, e⟩
  ·exact nomatch e
  ·injection e with e1 _
   subst e1
   cases v <;> rfl
theorem qT (prog : Program) (w : World) (i : Int) (t : Tok) : (b8 prog w).is (.inl i) (.int i t) = true := uE i t
theorem qE (prog : Program) (w : World) (x : Str) (t : Tok) : (b8 prog w).is (.inr x) (.str x t) = true := u4 x t
end L2
namespace L2
open PySem PySem.Spec PyProof.Rows
inductive V where
 | non | bl (b : Bool) | int (i : Int) | str (x : Str) | byt (b : Array UInt8) | flt (b : UInt64) | ref (a : Addr) | ty (n : String)
 deriving DecidableEq
def RelV : V -> Value -> Prop
 | .non, u => u = Value.none
 | .bl b, u => u = Value.bool b
 | .int i, u => ∃ t, u = Value.int i t
 | .str x, u => ∃ t, u = Value.str x t
 | .byt b, u => ∃ t, u = Value.bytes b t
 | .flt b, u => ∃ t, u = Value.float b t
 | .ref a, u => u = Value.ref a
 | .ty n, u => u = Value.type n
abbrev Vals : List V -> List Value -> Prop := Paired RelV
theorem Vals.length {xs : List V} {us : List Value} (r : Vals xs us) : xs.length = us.length := Paired.length r
theorem Vals.get : ∀ {xs : List V} {us : List Value} {i : Nat} {x : V}, Vals xs us -> xs[i]? = some x -> ∃ u, us[i]? = some u /\ RelV x u
 | _, _, _, _, .nil, e => by simp at e
 | _, _, 0, _, .cons r _, e => by simp at e; subst e; exact ⟨_, rfl, r⟩
 | _, _, i + 1, x, .cons _ t, e => by
   obtain ⟨u, h1, h2⟩ := Vals.get (i := i) (x := x) t (by simpa using e)
   exact ⟨u, by simpa using h1, h2⟩
theorem Vals.append : ∀ {xs ys : List V} {us ws : List Value}, Vals xs us -> Vals ys ws -> Vals (xs ++ ys) (us ++ ws)
 | _, _, _, _, .nil, s => s
 | _, _, _, _, .cons r t, s => .cons r (Vals.append t s)
theorem Vals.take : ∀ {xs : List V} {us : List Value} (n : Nat), Vals xs us -> Vals (xs.take n) (us.take n)
 | _, _, 0, _ => .nil
 | _, _, _ + 1, .nil => .nil
 | _, _, n + 1, .cons r t => .cons r (Vals.take n t)
theorem Vals.drop : ∀ {xs : List V} {us : List Value} (n : Nat), Vals xs us -> Vals (xs.drop n) (us.drop n)
 | _, _, 0, r => r
 | _, _, _ + 1, .nil => .nil
 | _, _, n + 1, .cons _ t => Vals.drop n t
def RelO : Option V -> Option Value -> Prop
 | some v, some u => RelV v u
 | none, none => True
 | _, _ => False
def KV {κ : Type} : List (κ × V) -> List (κ × Value) -> Prop := Paired fun (p : κ × V) (q : κ × Value) => p.1 = q.1 /\ RelV p.2 q.2
def kV : Key -> V
 | .inl i => .int i
 | .inr x => .str x
inductive HO where
 | lst (xs : List V)
 | tup (xs : List V)
 | dK (kvs : List (Key × V)) | dT (kvs : List (List Key × V))
 | set (S : Int -> Bool) (n : Nat)
 | ins (C dx : Addr) (fs : List (Str × V))
 | own (x : Addr)
 | xd (fs : List (Str × V))
 | met (f x : Addr)
 | rng (lo hi : Int)
 | frz (o : Obj) (u : HO)
 | tbl (ps : Array Value)
 | ext (φ : Heap -> Prop)
abbrev Hp := Addr -> Option HO
def upd (H : Hp) (a : Addr) (o : HO) : Hp := fun b => if b = a then some o else H b
theorem af {H : Hp} {a : Addr} {o : HO} : upd H a o a = some o := by unfold upd; rw [if_pos rfl]
theorem al {H : Hp} {a b : Addr} {o : HO} (h : b ≠ a) : upd H a o b = H b := by unfold upd; rw [if_neg h]
theorem dX {H : Hp} {a : Addr} {o u : HO} : upd (upd H a o) a u = upd H a u := by
 funext b; unfold upd; split <;> rfl
theorem oA {H : Hp} {a b : Addr} {o u : HO} (h : H a = some o) (h' : H b = some u) (d : o ≠ u) : a ≠ b := by
 intro e; subst e; rw [h] at h'; exact d (Option.some.inj h')
theorem az {H : Hp} {a b : Addr} {o : HO} (h : H a = some o) (h' : H b = none) : a ≠ b := by
 intro e; subst e; rw [h] at h'; cases h'
section
variable (P : Program) (w : World)
def ObjOk (H : Hp) (h : Heap) (a : Addr) : HO -> Prop
 | .lst xs => xs.length <= sizeLine /\ ∃ (its : List Value) (n : Nat), Vals xs its /\ h.get? a = some { cls := .type "list", data := .seq its.toArray n }
 | .tup xs => xs.length <= sizeLine /\ ∃ its : List Value, Vals xs its /\ IsTup h a its.toArray
 | .dK kvs => kvs.length <= sizeLine /\ (a == sysModules) = false /\ ∃ vs, KV kvs vs /\ h.DictOf (b8 P w) a vs
 | .dT kvs => kvs.length <= sizeLine /\ (a == sysModules) = false /\ ∃ xs : List (List Key × Addr × Value),
   Paired (fun (p : List Key × V) (q : List Key × Addr × Value) => p.1 = q.1 /\ H q.2.1 = some (.tup (p.1.map kV)) /\ RelV p.2 q.2.2) kvs xs /\
   ∃ o es ep, h.get? a = some o /\ o.ExactDict /\ o.data = .dict es ep /\ es.toList = xs.map (entryOfKey (tupleKind (b8 P w))) /\ (xs.map (·.1)).Nodup
 | .set S n => h.SetOf (intKind P w) a S n
 | .ins C dx fs => H dx = some (.own a) /\ fs.length <= 1000 /\ dx ≠ a /\ h.get? a = some (PySem.W.instObj C dx) /\
   ∃ mA, h.Ns1 dx mA /\ (∀ f, RelO (fs.lookup f) (mA f)) /\ PySem.Within mA (fs.map (·.1))
 | .own _ => ∃ o, h.get? a = some o
 | .xd fs => ∃ mA, h.Ns1 a mA /\ ∀ f, RelO (fs.lookup f) (mA f)
 | .rng lo hi => ∃ t u v, h.get? a = some { cls := .type "range", data := .fields #[.int lo t, .int hi u, .int 1 v] }
 | .frz o u => h.get? a = some o /\ ObjOk H h a u
 | .tbl ps => h.get? a = some { cls := .none, data := .fields ps }
 | .met f x => h.get? a = some (PySem.W.methodObj (.ref f) (.ref x))
 | .ext φ => φ h /\ (∃ o, h.get? a = some o) /\ ∀ h1 h2 : Heap, φ h1 -> (∀ o, h1.get? a = some o -> h2.get? a = some o) -> φ h2
def HOk (H : Hp) (h : Heap) : Prop := ∀ a o, H a = some o -> ObjOk P w H h a o
end
section
variable {P : Program} {w : World} {H H' : Hp} {h h' : Heap} {a : Addr} {o : HO}
theorem ObjOk.lt (x : ObjOk P w H h a o) : a < h.objs.size := by
 cases o with
 | lst xs => obtain ⟨_, _, _, _, e⟩ := x; exact Heap.lt_size e
 | tup xs => obtain ⟨_, _, _, p⟩ := x; exact p.lt
 | dK kvs => obtain ⟨_, _, _, _, o, _, _, e, _⟩ := x; exact Heap.lt_size e
 | dT kvs => obtain ⟨_, _, _, _, o, _, _, e, _⟩ := x; exact Heap.lt_size e
 | set S n => obtain ⟨o, _, _, _, e, _⟩ := x; exact Heap.lt_size e
 | ins C dx fs => obtain ⟨_, _, _, e, _⟩ := x; exact Heap.lt_size e
 | own y => obtain ⟨_, e⟩ := x; exact Heap.lt_size e
 | xd fs => obtain ⟨_, ⟨_, _, _, e, _⟩, _⟩ := x; exact Heap.lt_size e
 | rng lo hi => obtain ⟨_, _, _, e⟩ := x; exact Heap.lt_size e
 | frz ob u => obtain ⟨e, _⟩ := x; exact Heap.lt_size e
 | tbl ps => exact Heap.lt_size (show h.get? a = some _ from x)
 | met f y => exact Heap.lt_size (show h.get? a = some _ from x)
 | ext φ => obtain ⟨_, ⟨_, e⟩, _⟩ := x; exact Heap.lt_size e
theorem Paired.mapP {α β : Type} {F G : α -> β -> Prop} : ∀ {l₁ : List α} {l₂ : List β}, Paired F l₁ l₂ -> (∀ a b, F a b -> G a b) -> Paired G l₁ l₂
 | _, _, .nil, _ => .nil
 | _, _, .cons r t, f => .cons (f _ _ r) (Paired.mapP t f)
theorem ObjOk.stay (x : ObjOk P w H h a o) (k : ∀ b u, (b = a ∨ H b = some (.own a)) -> h.get? b = some u -> h'.get? b = some u)
  (ho : ∀ b, H b = some (.own a) -> H' b = some (.own a)) (ht : ∀ b xs, H b = some (.tup xs) -> H' b = some (.tup xs)) : ObjOk P w H' h' a o := by
 induction o with
 | lst xs => obtain ⟨z, its, n, r, e⟩ := x; exact ⟨z, its, n, r, k _ _ (.inl rfl) e⟩
 | tup xs => obtain ⟨z, its, r, ob, e, c⟩ := x; exact ⟨z, its, r, ob, k _ _ (.inl rfl) e, c⟩
 | dK kvs => obtain ⟨z, y, vs, r, ob, es, ep, e, c⟩ := x; exact ⟨z, y, vs, r, ob, es, ep, k _ _ (.inl rfl) e, c⟩
 | dT kvs =>
   obtain ⟨z, y, xs, r, ob, es, ep, e, c⟩ := x
   exact ⟨z, y, xs, Paired.mapP r fun p q z => ⟨z.1, ht _ _ z.2.1, z.2.2⟩, ob, es, ep, k _ _ (.inl rfl) e, c⟩
 | set S n => obtain ⟨ob, es, ep, t, e, c⟩ := x; exact ⟨ob, es, ep, t, k _ _ (.inl rfl) e, c⟩
 | ins C dx fs =>
   obtain ⟨d, z, ne, e, mA, ⟨od, es, ep, e2, c⟩, r⟩ := x
   exact ⟨ho _ d, z, ne, k _ _ (.inl rfl) e, mA, ⟨od, es, ep, k _ _ (.inr d) e2, c⟩, r⟩
 | own y => obtain ⟨ob, e⟩ := x; exact ⟨ob, k _ _ (.inl rfl) e⟩
 | xd fs => obtain ⟨mA, ⟨od, es, ep, e, c⟩, r⟩ := x; exact ⟨mA, ⟨od, es, ep, k _ _ (.inl rfl) e, c⟩, r⟩
 | rng lo hi => obtain ⟨t, u, v, e⟩ := x; exact ⟨t, u, v, k _ _ (.inl rfl) e⟩
 | frz ob u ih => obtain ⟨e, q⟩ := x; exact ⟨k _ _ (.inl rfl) e, ih q⟩
 | tbl ps =>
   have e : h.get? a = some { cls := .none, data := .fields ps } := x
   show h'.get? a = some { cls := .none, data := .fields ps }
   exact k a _ (.inl rfl) e
 | met f y =>
   have e : h.get? a = some (PySem.W.methodObj (.ref f) (.ref y)) := x
   show h'.get? a = some (PySem.W.methodObj (.ref f) (.ref y))
   exact k a _ (.inl rfl) e
 | ext φ => obtain ⟨p, ⟨o, e⟩, st⟩ := x; exact ⟨st _ _ p fun o q => k _ _ (.inl rfl) q, ⟨o, k _ _ (.inl rfl) e⟩, st⟩
theorem HOk.lt (x : HOk P w H h) (e : H a = some o) : a < h.objs.size := (x a o e).lt
theorem HOk.fresh (x : HOk P w H h) (e : h.objs.size <= a) : H a = none := by
 cases q : H a with
 | none => rfl
 | some u => exact absurd (Nat.lt_of_lt_of_le (x.lt q) e) (Nat.lt_irrefl _)
theorem HOk.kept (x : HOk P w H h) (k : ∀ b u, h.get? b = some u -> h'.get? b = some u) : HOk P w H h' := fun a o e =>
 (x a o e).stay (fun b u _ q => k b u q) (fun _ q => q) fun _ _ q => q
theorem HOk.laid (x : HOk P w H h) (k : ∀ b u, h.get? b = some u -> h'.get? b = some u) (hp : h.objs.size <= a) (new : ObjOk P w (upd H a o) h' a o) : HOk P w (upd H a o) h' := fun b u e => by
 have hn := x.fresh hp
 by_cases hb : b = a
 ·subst hb; rw [af] at e; cases e; exact new
 ·rw [al hb] at e
  exact (x b u e).stay (fun c v _ q => k c v q) (fun c q => by rw [al (az q hn)]; exact q) fun c xs q => by rw [al (az q hn)]; exact q
end
def Rd (H : Hp) (a : Addr) (u : HO) : Prop := H a = some u ∨ ∃ o, H a = some (.frz o u)
theorem Rd.ok {P : Program} {w : World} {H : Hp} {h : Heap} {a : Addr} {u : HO} (r : Rd H a u) (x : HOk P w H h) : ObjOk P w H h a u := by
 rcases r with r | ⟨o, r⟩
 ·exact x a u r
 ·obtain ⟨_, q⟩ := x a _ r
  exact q
def Mut : Option HO -> Prop
 | some (.lst _) => True
 | some (.dK _) => True
 | some (.dT _) => True
 | some (.set _ _) => True
 | some (.ins _ _ _) => True
 | some (.ext _) => True
 | _ => False
section
variable {P : Program} {w : World} {H : Hp} {h h' : Heap} {x e : Addr} {o' : HO}
theorem HOk.write (ok : HOk P w H h) (mu : Mut (H x)) (he : e = x ∨ H e = some (.own x)) (k : ∀ b u, b ≠ e -> h.get? b = some u -> h'.get? b = some u) (heo : ∃ u, h'.get? e = some u)
  (new : ObjOk P w (upd H x o') h' x o') : HOk P w (upd H x o') h' := fun b u q => by
 have nown : ∀ c y, H c = some (.own y) -> c ≠ x := fun c y r z => by subst z; rw [r] at mu; exact mu
 have ntup : ∀ c xs, H c = some (.tup xs) -> c ≠ x := fun c xs r z => by subst z; rw [r] at mu; exact mu
 by_cases hb : b = x
 ·subst hb; rw [af] at q; cases q; exact new
 ·rw [al hb] at q
  by_cases hbe : b = e
  ·have q' : H b = some (.own x) := by
    rcases he with z | z
    ·exact absurd (hbe.trans z) hb
    ·rw [hbe]; exact z
   rw [q] at q'; cases q'
   obtain ⟨v, hv⟩ := heo
   exact ⟨v, by rw [hbe]; exact hv⟩
  ·refine (ok b u q).stay (fun c v hc r => k c v ?_ r) (fun c r => by rw [al (nown c b r)]; exact r) fun c xs r => by rw [al (ntup c xs r)]; exact r
   rcases hc with rfl | hc
   ·exact hbe
   ·rintro rfl
    rcases he with z | z
    ·exact nown c b hc z
    ·rw [hc] at z; cases z; exact hb rfl
end
structure Un (fs ex : List Addr) (H H' : Hp) (h h' : Heap) : Prop where
 keep : ∀ b o, h.get? b = some o -> H b = none -> b ∉ fs -> b ∉ ex -> h'.get? b = some o
 slot : ∀ b o, h.get? b = some o -> H b = none -> b ∈ fs -> b ∉ ex -> ∃ sl, h'.get? b = some { o with slots := sl }
 free : ∀ b o, h.get? b = some o -> H b = none -> b ∉ ex -> H' b = none
 there : ∀ b o, h.get? b = some o -> b ∉ ex -> ∃ o', h'.get? b = some o'
 tups : ∀ b xs, H b = some (.tup xs) -> H' b = some (.tup xs)
 frzs : ∀ b o u, H b = some (.frz o u) -> H' b = some (.frz o u)
 tbls : ∀ b ps, H b = some (.tbl ps) -> ∃ more, H' b = some (.tbl (ps ++ more))
section
variable {fs fs' ex ex' : List Addr} {H H1 H2 : Hp} {h h1 h2 h' : Heap} {a x e : Addr} {o : HO}
theorem Un.any (u : Un fs ex H H1 h h1) {b : Addr} {ob : Obj} (q : h.get? b = some ob) (n : H b = none) (hx : b ∉ ex) : ∃ sl, h1.get? b = some { ob with slots := sl } := by
 by_cases hb : b ∈ fs
 ·exact u.slot b ob q n hb hx
 ·exact ⟨ob.slots, u.keep b ob q n hb hx⟩
theorem Un.kept (k : ∀ b u, h.get? b = some u -> h'.get? b = some u) : Un fs ex H H h h' :=
 ⟨fun b ob q _ _ _ => k b ob q, fun b ob q _ _ _ => ⟨ob.slots, k b ob q⟩, fun _ _ _ n _ => n, fun b ob q _ => ⟨ob, k b ob q⟩, fun _ _ q => q, fun _ _ _ q => q, fun _ ps q => ⟨#[], by rw [q]; simp⟩⟩
theorem Un.refl : Un fs ex H H h h := Un.kept fun _ _ q => q
theorem Un.laid (k : ∀ b u, h.get? b = some u -> h'.get? b = some u) (hp : h.objs.size <= a) (hn : H a = none) : Un fs ex H (upd H a o) h h' where
 keep := fun b u q _ _ _ => k b u q
 slot := fun b u q _ _ _ => ⟨u.slots, k b u q⟩
 free := fun b u q n _ => by rw [al (Nat.ne_of_lt (Nat.lt_of_lt_of_le (Heap.lt_size q) hp))]; exact n
 there := fun b u q _ => ⟨u, k b u q⟩
 tups := fun b xs q => by rw [al (az q hn)]; exact q
 frzs := fun b u xs q => by rw [al (az q hn)]; exact q
 tbls := fun b ps q => ⟨#[], by rw [al (az q hn), q]; simp⟩
theorem Un.write (mu : Mut (H x)) (he : e = x ∨ H e = some (.own x)) (k : ∀ b u, b ≠ e -> h.get? b = some u -> h'.get? b = some u) (heo : ∃ u, h'.get? e = some u) : Un fs ex H (upd H x o) h h' := by
 have hx : ∀ b, H b = none -> b ≠ x := fun b n z => by subst z; rw [n] at mu; exact mu
 have hb : ∀ b, H b = none -> b ≠ e := fun b n z => by
  subst z
  rcases he with r | r
  ·exact hx b n r
  ·rw [n] at r; cases r
 have hm : ∀ b u, H b = some u -> ¬ Mut (some u) -> b ≠ x := fun b u q nm z => by subst z; rw [q] at mu; exact nm mu
 refine ⟨fun b u q n _ _ => k b u (hb b n) q, fun b u q n _ _ => ⟨u.slots, k b u (hb b n) q⟩, fun b u q n _ => by rw [al (hx b n)]; exact n, fun b u q _ => ?_,
  fun b xs q => by rw [al (hm b _ q fun z => z)]; exact q, fun b u xs q => by rw [al (hm b _ q fun z => z)]; exact q, fun b ps q => ⟨#[], by rw [al (hm b _ q fun z => z), q]; simp⟩⟩
 by_cases hbe : b = e
 ·subst hbe; exact heo
 ·exact ⟨u, k b u hbe q⟩
end
def trk (h : Heap) (H : Hp) : List Addr := (List.range h.objs.size).filter fun a => (H a).isSome
def ph (h : Heap) (H : Hp) : Heap := PySem.W.hideAll h (trk h H)
theorem uj (h : Heap) (H : Hp) : (ph h H).objs.size = h.objs.size := PySem.W.hideAll_size _ _
theorem vJ {h : Heap} {H : Hp} {b : Addr} {o : Obj} (e : h.get? b = some o) (n : H b = none) : (ph h H).get? b = some o :=
 PySem.W.hideAll_get _ e fun hm => by
  have q : (H b).isSome = true := (List.mem_filter.mp hm).2
  rw [n] at q; simp at q
theorem xw {h : Heap} {H : Hp} {b : Addr} {o : Obj} (e : (ph h H).get? b = some o) : h.get? b = some o /\ H b = none := by
 have e' : h.get? b = some o := PySem.W.of_hideAll (trk h H) e
 refine ⟨e', ?_⟩
 cases q : H b with
 | none => rfl
 | some x =>
   have hm : b ∈ trk h H := List.mem_filter.mpr ⟨List.mem_range.mpr (Heap.lt_size e'), by simp [q]⟩
   have z : (ph h H).get? b = none := PySem.W.hideAll_none (trk h H) hm
   rw [z] at e; cases e
end L2
namespace L2
open PySem PySem.Spec PyProof.Rows
structure Mod (K : Frag) (mg : Str -> Option Value) (base : Heap) : Prop where
 kin : K.In base
 glob : base.Ns mainGlobals mg
 blt : ∃ mb, base.Ns builtinsNs mb /\ ∀ x : Str, x ≠ "__name__" -> mb x = bootBuiltins x
 nolimit : base.NoLimit
structure Cx where
 prog : Program
 w : World
 K : Frag
 mg : Str -> Option Value
 base : Heap
 A : Around
 N : List Str
 s_0 : Shared
 H_0 : Hp
 env : Env
 outer : List Env
 stack : List Env
 ex : List Addr
 fn : Str -> Bool
 calm : Bool
 pn : List (Addr × Obj)
 xe : Value -> Shared -> Prop
def frs (l : List Env) : List Addr := l.filterMap (·.frame)
abbrev Cx.fs (X : Cx) : List Addr := frs X.outer
def Vis (sc : Scope) (x : Str) : Prop := sc.names.lookup x = some .local ∨ sc.names.lookup x = some .cell ∨ sc.names.lookup x = some .free
def Loc (sc : Scope) (x : Str) : Prop := sc.names.lookup x = some .local ∨ sc.names.lookup x = some .cell
def Da (env : Env) (h : Heap) (m : Str -> Option Value) (x : Str) (u : Value) : Prop :=
 (env.kindOf x = some .local /\ m x = some u) ∨ ((env.kindOf x = some .cell ∨ env.kindOf x = some .free) /\ ∃ c, env.cells.lookup x = some c /\ h.IsCell c (some u))
structure Cx.Ok (X : Cx) : Prop where
 mod : Mod X.K X.mg X.base
 kind : X.env.scope.kind = .function
 glob : X.env.globals = mainGlobals
 blt : X.env.builtins = builtinsNs
 above : X.s_0.heap.objs.size <= X.env.locals
 inj : ∀ x y c, X.env.cells.lookup x = some c -> X.env.cells.lookup y = some c -> x = y
 has : ∀ x, (X.env.kindOf x = some .cell ∨ X.env.kindOf x = some .free) -> ∃ c, X.env.cells.lookup x = some c
 cab : ∀ x c, X.fn x = true -> X.env.cells.lookup x = some c -> X.s_0.heap.objs.size <= c
 hd : X.calm = true -> X.A.handled = none
 frames : X.A.frames = some X.stack
 stk : X.stack = X.outer ∨ (X.stack = X.env :: X.outer /\ X.env.frame = some X.env.locals)
 exf : ∀ b ∈ X.ex, b ≠ X.env.locals /\ ∀ x c, X.env.cells.lookup x = some c -> c ≠ b
 bs : ∀ b o, X.base.get? b = some o -> X.s_0.heap.get? b = some o /\ X.H_0 b = none
 bsz : X.base.objs.size <= X.s_0.heap.objs.size
 noex : ∀ b o, X.base.get? b = some o -> b ∉ X.ex
 exfs : ∀ b ∈ X.ex, b ∉ X.fs
 funs : X.s_0.heap.FunFrames X.base X.outer
 frf : ∀ b ∈ X.fs, X.H_0 b = none
structure Inv (X : Cx) (pins : List (Addr × Obj)) (σ : List (Option V)) (H : Hp) (s : Shared) : Prop where
 ok : X.Ok
 os : s.os = X.s_0.os
 bare : AllBare s.gens
 base : Un X.fs X.ex X.H_0 H X.s_0.heap s.heap
 loc : ∃ m, s.heap.Ns X.env.locals m /\ ∀ (i : Nat) (x : Str) (v : V), X.N[i]? = some x -> σ[i]? = some (some v) -> Vis X.env.scope x -> ∃ u, RelV v u /\ Da X.env s.heap m x u
 cell : ∀ x c, X.env.cells.lookup x = some c -> ∃ v, s.heap.IsCell c v
 free : H X.env.locals = none
 freeC : ∀ x c, X.env.cells.lookup x = some c -> H c = none
 pin : ∀ p ∈ X.pn ++ pins, s.heap.get? p.1 = some p.2 /\ H p.1 = none /\ p.1 ≠ X.env.locals /\ p.1 ∉ X.fs /\ ∀ v, p.2.data ≠ .cell v
 hok : HOk X.prog X.w H s.heap
 len : σ.length = X.N.length
section
variable {X : Cx} {pins : List (Addr × Obj)} {σ : List (Option V)} {H H' : Hp} {s : Shared} {h' : Heap}
theorem Cx.Ok.nofr (ok : X.Ok) {b : Addr} {o : Obj} (e : X.base.get? b = some o) : b ∉ X.fs := fun hb => by
 have := (ok.funs.mem hb).1
 rw [e] at this; cases this
theorem Inv.bs (I : Inv X pins σ H s) : ∀ b o, X.base.get? b = some o -> s.heap.get? b = some o /\ H b = none := fun b o e =>
 ⟨I.base.keep b o (I.ok.bs b o e).1 (I.ok.bs b o e).2 (I.ok.nofr e) (I.ok.noex b o e), I.base.free b o (I.ok.bs b o e).1 (I.ok.bs b o e).2 (I.ok.noex b o e)⟩
theorem Inv.bk (I : Inv X pins σ H s) : ∀ b o, X.base.get? b = some o -> s.heap.get? b = some o := fun b o e => (I.bs b o e).1
theorem Inv.mod (I : Inv X pins σ H s) : Mod X.K X.mg X.base := I.ok.mod
theorem Inv.kIn (I : Inv X pins σ H s) : X.K.In s.heap := I.ok.mod.kin.keeps I.bk
theorem Inv.fr (I : Inv X pins σ H s) : ∃ m, Fr X.base X.env.locals s.heap m :=
 let ⟨m, hn, _⟩ := I.loc
 ⟨m, hn, I.bk, Nat.le_trans I.ok.bsz I.ok.above⟩
theorem Inv.lt (I : Inv X pins σ H s) : X.env.locals < s.heap.objs.size := let ⟨_, hn, _⟩ := I.loc; hn.lt
theorem Inv.sz (I : Inv X pins σ H s) : X.s_0.heap.objs.size <= s.heap.objs.size := Nat.le_trans I.ok.above (Nat.le_of_lt I.lt)
theorem Inv.nofs (I : Inv X pins σ H s) {a : Addr} (h : s.heap.objs.size <= a) : a ∉ X.fs := fun hb => by
 obtain ⟨_, o, ho, _⟩ := I.ok.funs.mem hb
 exact absurd (Nat.lt_of_lt_of_le (Heap.lt_size ho) (Nat.le_trans I.sz h)) (Nat.lt_irrefl _)
theorem Inv.cne (I : Inv X pins σ H s) : ∀ x c, X.env.cells.lookup x = some c -> c ≠ X.env.locals := fun x c e z => by
 obtain ⟨v, o, ho, hd⟩ := I.cell x c e
 obtain ⟨m, ⟨o', es, ep, ho', hd', _⟩, _⟩ := I.loc
 rw [z, ho'] at ho; cases ho; rw [hd'] at hd; cases hd
theorem Inv.funs (I : Inv X pins σ H s) : s.heap.FunFrames X.base X.outer := by
 have all : ∀ (l : List Env), (∀ b ∈ frs l, b ∈ X.fs) -> X.s_0.heap.FunFrames X.base l -> s.heap.FunFrames X.base l := by
  intro l
  induction l with
  | nil => intro _ _; trivial
  | cons env r ih =>
    intro hs hl
    obtain ⟨hk, ⟨L, o, hf, hn, ho, hd⟩, hr⟩ := hl
    have hL : L ∈ X.fs := hs L (by unfold frs; rw [List.filterMap_cons, hf]; exact List.mem_cons_self)
    obtain ⟨sl, e⟩ := I.base.slot L o ho (I.ok.frf L hL) hL fun z => I.ok.exfs L z hL
    exact ⟨hk, ⟨L, _, hf, hn, e, hd⟩, ih (fun b hb => hs b (by unfold frs; rw [List.filterMap_cons, hf]; exact List.mem_cons_of_mem _ hb)) hr⟩
 exact all X.outer (fun _ hb => hb) I.ok.funs
theorem Inv.stack (I : Inv X pins σ H s) : s.heap.FunFrames X.base X.stack := by
 rcases I.ok.stk with e | ⟨e, hf⟩
 ·rw [e]; exact I.funs
 ·rw [e]
  obtain ⟨m, hn, _⟩ := I.loc
  refine .cons (by rw [I.ok.kind]; decide) hf hn ?_ I.funs
  exact Heap.get?_none_of_le (Nat.le_trans I.ok.bsz I.ok.above)
theorem Inv.stkSub (I : Inv X pins σ H s) : ∀ b ∈ frs X.stack, b ∈ X.env.locals :: X.fs := fun b hb => by
 rcases I.ok.stk with e | ⟨e, hf⟩
 ·rw [e] at hb; exact List.mem_cons_of_mem _ hb
 ·rw [e] at hb
  unfold frs at hb
  rw [List.filterMap_cons, hf] at hb
  exact hb
theorem Inv.stkFree (I : Inv X pins σ H s) : ∀ b ∈ frs X.stack, H b = none := fun b hb => by
 rcases List.mem_cons.mp (I.stkSub b hb) with e | hb
 ·rw [e]; exact I.free
 ·obtain ⟨_, o, ho, _⟩ := I.ok.funs.mem hb
  exact I.base.free b o ho (I.ok.frf b hb) fun z => I.ok.exfs b z hb
theorem Inv.step {g' : Array GenState} {t' : Nat} {d' : Drawn} {ch : List Addr} (I : Inv X pins σ H s)
  (hch : ∀ b ∈ ch, (b ∈ X.ex ∨ X.s_0.heap.objs.size <= b) /\ b ≠ X.env.locals /\ (∀ x c, X.env.cells.lookup x = some c -> c ≠ b) /\ ∀ p ∈ X.pn ++ pins, p.1 ≠ b)
  (keep : ∀ b o, b ≠ X.env.locals -> b ∉ X.fs -> b ∉ ch -> s.heap.get? b = some o -> H b = none -> h'.get? b = some o)
  (slot : ∀ b o, b ≠ X.env.locals -> b ∈ X.fs -> b ∉ ch -> s.heap.get? b = some o -> H b = none -> ∃ sl, h'.get? b = some { o with slots := sl }) (free : ∀ b o, b ∉ ch -> s.heap.get? b = some o -> H b = none -> H' b = none)
  (there : ∀ b o, b ∉ ch -> s.heap.get? b = some o -> ∃ o', h'.get? b = some o')
  (tups : ∀ b xs, H b = some (.tup xs) -> H' b = some (.tup xs)) (frzs : ∀ b o u, H b = some (.frz o u) -> H' b = some (.frz o u)) (tbls : ∀ b ps, H b = some (.tbl ps) -> ∃ more, H' b = some (.tbl (ps ++ more)))
  (ns : ∀ m, s.heap.Ns X.env.locals m -> h'.Ns X.env.locals m) (hok : HOk X.prog X.w H' h') (hg : AllBare g') :
  Inv X pins σ H' { s with heap := h', gens := g', drawn := d', toks := t' } := by
 have neL : ∀ b o, X.s_0.heap.get? b = some o -> b ≠ X.env.locals := fun b o e => Nat.ne_of_lt (Nat.lt_of_lt_of_le (Heap.lt_size e) I.ok.above)
 have neC : ∀ b o, X.s_0.heap.get? b = some o -> b ∉ X.ex -> b ∉ ch := fun b o e hx hb => by
  rcases (hch b hb).1 with z | z
  ·exact hx z
  ·exact absurd (Nat.lt_of_lt_of_le (Heap.lt_size e) z) (Nat.lt_irrefl _)
 have cellK : ∀ x c, X.env.cells.lookup x = some c -> ∀ v, s.heap.IsCell c v -> h'.IsCell c v := fun x c e v ⟨o, ho, hd⟩ => by
  have nch : c ∉ ch := fun z => (hch c z).2.2.1 x c e rfl
  by_cases hc : c ∈ X.fs
  ·obtain ⟨sl, q⟩ := slot c o (I.cne x c e) hc nch ho (I.freeC x c e)
   exact ⟨_, q, hd⟩
  ·exact ⟨o, keep c o (I.cne x c e) hc nch ho (I.freeC x c e), hd⟩
 refine ⟨I.ok, I.os, hg, ⟨fun b o e n hb hx => ?_, fun b o e n hb hx => ?_, fun b o e n hx => ?_, fun b o e hx => ?_, fun b xs e => tups b xs (I.base.tups b xs e), fun b o xs e => frzs b o xs (I.base.frzs b o xs e), fun b ps e => ?_⟩, ?_, fun x c e => ?_, ?_, fun x c e => ?_, fun p hp => ?_, hok, I.len⟩
 ·exact keep b o (neL b o e) hb (neC b o e hx) (I.base.keep b o e n hb hx) (I.base.free b o e n hx)
 ·obtain ⟨sl, e1⟩ := I.base.slot b o e n hb hx
  obtain ⟨sl', e2⟩ := slot b _ (neL b o e) hb (neC b o e hx) e1 (I.base.free b o e n hx)
  exact ⟨sl', e2⟩
 ·obtain ⟨o', e1⟩ := I.base.there b o e hx
  exact free b o' (neC b o e hx) e1 (I.base.free b o e n hx)
 ·obtain ⟨o', e1⟩ := I.base.there b o e hx
  exact there b o' (neC b o e hx) e1
 ·obtain ⟨m1, e1⟩ := I.base.tbls b ps e
  obtain ⟨m2, e2⟩ := tbls b _ e1
  exact ⟨m1 ++ m2, by rw [e2, Array.append_assoc]⟩
 ·obtain ⟨m, hn, hl⟩ := I.loc
  refine ⟨m, ns m hn, fun i x v e1 e2 e3 => ?_⟩
  obtain ⟨u, r, l⟩ := hl i x v e1 e2 e3
  refine ⟨u, r, ?_⟩
  rcases l with l | ⟨k, c, e, z⟩
  ·exact .inl l
  ·exact .inr ⟨k, c, e, cellK x c e _ z⟩
 ·obtain ⟨v, z⟩ := I.cell x c e
  exact ⟨v, cellK x c e v z⟩
 ·obtain ⟨m, ⟨o, _, _, ho, _⟩, _⟩ := I.loc
  exact free _ o (fun z => (hch _ z).2.1 rfl) ho I.free
 ·obtain ⟨v, o, ho, hd⟩ := I.cell x c e
  exact free c o (fun z => (hch c z).2.2.1 x c e rfl) ho (I.freeC x c e)
 ·obtain ⟨e, n, ne, nf, d⟩ := I.pin p hp
  have nch : p.1 ∉ ch := fun z => (hch p.1 z).2.2.2 p hp rfl
  exact ⟨keep p.1 p.2 ne nf nch e n, free p.1 p.2 nch e n, ne, nf, d⟩
theorem Inv.un {t' : Nat} (I : Inv X pins σ H s) (u : Un X.fs [] H H' s.heap h') (hok : HOk X.prog X.w H' h') : Inv X pins σ H' { s with heap := h', toks := t' } := by
 obtain ⟨m, ⟨o, es, ep, ho, r⟩, _⟩ := id I.loc
 obtain ⟨sl, hL⟩ := u.any ho I.free (by simp)
 exact I.step (g' := s.gens) (d' := s.drawn) (ch := []) (fun _ z => nomatch z) (fun b o _ hb _ e n => u.keep b o e n hb (by simp)) (fun b o _ hb _ e n => u.slot b o e n hb (by simp)) (fun b o _ e n => u.free b o e n (by simp)) (fun b o _ e => u.there b o e (by simp)) u.tups u.frzs u.tbls (fun m' hm => by
  obtain ⟨o', es', ep', ho', r'⟩ := hm
  rw [ho] at ho'; cases ho'
  exact ⟨_, es', ep', hL, r'⟩) hok I.bare
theorem Inv.call {g' : Array GenState} {t' : Nat} {d' : Drawn} {ch : List Addr} (I : Inv X pins σ H s) (u : Un (frs X.stack) ch H H' s.heap h') (hok : HOk X.prog X.w H' h') (hg : AllBare g')
  (hch : ∀ b ∈ ch, (b ∈ X.ex ∨ X.s_0.heap.objs.size <= b) /\ b ≠ X.env.locals /\ (∀ x c, X.env.cells.lookup x = some c -> c ≠ b) /\ ∀ p ∈ X.pn ++ pins, p.1 ≠ b) :
  Inv X pins σ H' { s with heap := h', gens := g', drawn := d', toks := t' } := by
 obtain ⟨m, ⟨o, es, ep, ho, r⟩, _⟩ := id I.loc
 obtain ⟨sl, hL⟩ := u.any ho I.free fun z => (hch _ z).2.1 rfl
 exact I.step (ch := ch) hch (fun b o hL hb hc e n => u.keep b o e n (fun z => (List.mem_cons.mp (I.stkSub b z)).elim hL hb) hc) (fun b o _ _ hc e n => u.any e n hc) (fun b o hc e n => u.free b o e n hc) (fun b o hc e => u.there b o e hc) u.tups u.frzs u.tbls (fun m' hm => by
  obtain ⟨o', es', ep', ho', r'⟩ := hm
  rw [ho] at ho'; cases ho'
  exact ⟨_, es', ep', hL, r'⟩) hok hg
theorem Inv.turned {t' : Nat} {it : Addr} (I : Inv X pins σ H s) (k : ∀ b o, b ≠ it -> s.heap.get? b = some o -> h'.get? b = some o) (hn : H it = none) (hL : it ≠ X.env.locals)
  (h1 : it ∈ X.ex ∨ X.s_0.heap.objs.size <= it) (h2 : ∀ x c, X.env.cells.lookup x = some c -> c ≠ it) (h3 : ∀ p ∈ X.pn ++ pins, p.1 ≠ it) : Inv X pins σ H { s with heap := h', toks := t' } := by
 have nit : ∀ b u, H b = some u -> b ≠ it := fun b u e z => by rw [z, hn] at e; cases e
 refine I.step (g' := s.gens) (d' := s.drawn) (ch := [it]) (fun b hb => ?_) (fun b o _ _ hc e _ => k b o (fun z => hc (by simp [z])) e) (fun b o _ _ hc e _ => ⟨o.slots, k b o (fun z => hc (by simp [z])) e⟩) (fun _ _ _ _ n => n)
  (fun b o hc e => ⟨o, k b o (fun z => hc (by simp [z])) e⟩) (fun _ _ e => e) (fun _ _ _ e => e) (fun b ps e => ⟨#[], by rw [e]; simp⟩) (fun m hm => ?_) (fun b u e => ?_) I.bare
 ·have e : b = it := by simpa using hb
  subst e
  exact ⟨h1, hL, h2, h3⟩
 ·obtain ⟨o, es, ep, ho, r⟩ := hm
  exact ⟨o, es, ep, k _ o (Ne.symm hL) ho, r⟩
 ·refine (I.hok b u e).stay (fun c v hc q => k c v ?_ q) (fun _ q => q) fun _ _ q => q
  rcases hc with z | z
  ·rw [z]; exact nit b u e
  ·exact nit c _ z
theorem Inv.tok (I : Inv X pins σ H s) (t : Nat) : Inv X pins σ H { s with toks := t } := I.un (h' := s.heap) (t' := t) Un.refl I.hok
theorem Inv.kept {t' : Nat} (I : Inv X pins σ H s) (k : ∀ b u, s.heap.get? b = some u -> h'.get? b = some u) : Inv X pins σ H { s with heap := h', toks := t' } := I.un (Un.kept k) (I.hok.kept k)
theorem Inv.laid {a : Addr} {o : HO} {t' : Nat} (I : Inv X pins σ H s) (k : ∀ b u, s.heap.get? b = some u -> h'.get? b = some u) (hp : s.heap.objs.size <= a) (new : ObjOk X.prog X.w (upd H a o) h' a o) :
  Inv X pins σ (upd H a o) { s with heap := h', toks := t' } := I.un (Un.laid k hp (I.hok.fresh hp)) (I.hok.laid k hp new)
theorem Inv.write {x e : Addr} {o : HO} {t' : Nat} (I : Inv X pins σ H s) (mu : Mut (H x)) (he : e = x ∨ H e = some (.own x)) (k : ∀ b u, b ≠ e -> s.heap.get? b = some u -> h'.get? b = some u) (heo : ∃ u, h'.get? e = some u)
  (new : ObjOk X.prog X.w (upd H x o) h' x o) : Inv X pins σ (upd H x o) { s with heap := h', toks := t' } := I.un (Un.write mu he k heo) (I.hok.write mu he k heo new)
theorem Inv.weak {σ' : List (Option V)} (I : Inv X pins σ H s) (hl : σ'.length = σ.length) (w : ∀ (i : Nat) v, σ'[i]? = some (some v) -> σ[i]? = some (some v)) : Inv X pins σ' H s :=
 ⟨I.ok, I.os, I.bare, I.base, let ⟨m, hn, hl'⟩ := I.loc; ⟨m, hn, fun i x v e1 e2 e3 => hl' i x v e1 (w i v e2) e3⟩, I.cell, I.free, I.freeC, I.pin, I.hok, hl.trans I.len⟩
theorem Inv.pins_of {pins' : List (Addr × Obj)} (I : Inv X pins σ H s) (h : ∀ p ∈ pins', s.heap.get? p.1 = some p.2 /\ H p.1 = none /\ p.1 ≠ X.env.locals /\ p.1 ∉ X.fs /\ ∀ v, p.2.data ≠ .cell v) : Inv X pins' σ H s :=
 ⟨I.ok, I.os, I.bare, I.base, I.loc, I.cell, I.free, I.freeC, fun p hp => (List.mem_append.mp hp).elim (fun z => I.pin p (List.mem_append_left _ z)) (h p), I.hok, I.len⟩
theorem nq {N : List Str} (hN : N.Nodup) {i j : Nat} {x : Str} (a : N[i]? = some x) (b : N[j]? = some x) : i = j := by
 obtain ⟨h1, e1⟩ := List.getElem?_eq_some_iff.mp a
 obtain ⟨h2, e2⟩ := List.getElem?_eq_some_iff.mp b
 exact (List.getElem_inj hN).mp (e1.trans e2.symm)
theorem o0 {M : Model} {A : Around} {E : Value -> Shared -> Prop} {i : Nat} {x : Str} {v : V} {u : Value} {Q : Unit -> Shared -> Prop} (I : Inv X pins σ H s) (hN : X.N.Nodup) (hi : X.N[i]? = some x) (hx : Loc X.env.scope x) (r : RelV v u)
  (h : ∀ s', Inv X pins (σ.set i (some v)) H s' -> (∃ a, Heap.SameBut a s.heap s'.heap /\ (a = X.env.locals ∨ X.env.cells.lookup x = some a)) -> Q () s') (hf : X.fn x = true ∨ X.env.scope.names.lookup x = some .local := by first | exact .inl rfl | exact .inr rfl | assumption) : wpAny M A (storeName X.env x u) Q E s := by
 obtain ⟨m, hn, hl⟩ := id I.loc
 have hcls : (X.env.scope.kind == .class || (X.env.scope.kind == .module && X.env.locals != X.env.globals)) = false := by rw [I.ok.kind]; rfl
 have hiσ : i < σ.length := by rw [I.len]; exact (List.getElem?_eq_some_iff.mp hi).1
 have cne := I.cne
 have tracked : ∀ {a : Addr} {h' : Heap}, (∃ o, s.heap.get? a = some o /\ H a = none) -> Heap.SameBut a s.heap h' -> HOk X.prog X.w H h' := fun {a h'} ha hs b ob e => by
  obtain ⟨_, _, hfree⟩ := ha
  refine (I.hok b ob e).stay (fun c w' hc q => (hs.2 c ?_).trans q) (fun _ q => q) fun _ _ q => q
  rintro rfl
  rcases hc with rfl | hc
  ·rw [hfree] at e; cases e
  ·rw [hfree] at hc; cases hc
 rcases hx with hk | hk
 ·refine wpAny_storeName_local hk hn (fun h' hn' hs => ?_) hcls
  obtain ⟨oL, _, _, hoL, _⟩ := id hn
  refine h _ ⟨I.ok, I.os, I.bare, ⟨fun b o e n hb hx => ?_, fun b o e n hb hx => ?_, I.base.free, fun b o e hx => ?_, I.base.tups, I.base.frzs, I.base.tbls⟩, ⟨_, hn', fun j y v' e1 e2 e3 => ?_⟩, fun y c e => ?_, I.free, I.freeC, fun p hp => ?_, tracked ⟨oL, hoL, I.free⟩ hs, by simpa using I.len⟩ ⟨_, hs, .inl rfl⟩
  ·exact (hs.2 b (Nat.ne_of_lt (Nat.lt_of_lt_of_le (Heap.lt_size e) I.ok.above))).trans (I.base.keep b o e n hb hx)
  ·obtain ⟨sl, e1⟩ := I.base.slot b o e n hb hx
   exact ⟨sl, (hs.2 b (Nat.ne_of_lt (Nat.lt_of_lt_of_le (Heap.lt_size e) I.ok.above))).trans e1⟩
  ·obtain ⟨o', e1⟩ := I.base.there b o e hx
   exact ⟨o', (hs.2 b (Nat.ne_of_lt (Nat.lt_of_lt_of_le (Heap.lt_size e) I.ok.above))).trans e1⟩
  ·by_cases hj : j = i
   ·subst hj
    rw [hi] at e1; cases e1
    rw [List.getElem?_set_self hiσ] at e2
    cases e2
    exact ⟨u, r, .inl ⟨hk, by simp⟩⟩
   ·rw [List.getElem?_set_ne (Ne.symm hj)] at e2
    obtain ⟨u', r', q⟩ := hl j y v' e1 e2 e3
    refine ⟨u', r', ?_⟩
    rcases q with ⟨k, e⟩ | ⟨k, c, e, z⟩
    ·refine .inl ⟨k, ?_⟩
     have : y ≠ x := fun e => hj (nq hN e1 (e ▸ hi))
     simp [this, e]
    ·exact .inr ⟨k, c, e, z.sameBut hs (cne y c e)⟩
  ·obtain ⟨w', z⟩ := I.cell y c e
   exact ⟨w', z.sameBut hs (cne y c e)⟩
  ·obtain ⟨e, n, ne, nf, d⟩ := I.pin p hp
   exact ⟨(hs.2 p.1 ne).trans e, n, ne, nf, d⟩
 ·have hfn : X.fn x = true := by
   rcases hf with z | z
   ·exact z
   ·rw [z] at hk; cases hk
  obtain ⟨c, hc⟩ := I.ok.has x (.inl hk)
  obtain ⟨w', z⟩ := I.cell x c hc
  refine wpAny_storeName_cell I.ok.kind hk hc z (fun h' hc' hs => ?_)
  obtain ⟨oc, hoc, hocd⟩ := id z
  refine h { s with heap := h' } ⟨I.ok, I.os, I.bare, ⟨fun b o e n hb hx => ?_, fun b o e n hb hx => ?_, I.base.free, fun b o e hx => ?_, I.base.tups, I.base.frzs, I.base.tbls⟩, ⟨m, hn.sameBut hs (Ne.symm (cne x c hc)), fun j y v' e1 e2 e3 => ?_⟩, fun y c' e => ?_, I.free, I.freeC, fun p hp => ?_, tracked ⟨oc, hoc, I.freeC x c hc⟩ hs, by simpa using I.len⟩ ⟨c, hs, .inr hc⟩
  ·exact (hs.2 b (Nat.ne_of_lt (Nat.lt_of_lt_of_le (Heap.lt_size e) (I.ok.cab x c hfn hc)))).trans (I.base.keep b o e n hb hx)
  ·obtain ⟨sl, e1⟩ := I.base.slot b o e n hb hx
   exact ⟨sl, (hs.2 b (Nat.ne_of_lt (Nat.lt_of_lt_of_le (Heap.lt_size e) (I.ok.cab x c hfn hc)))).trans e1⟩
  ·obtain ⟨o', e1⟩ := I.base.there b o e hx
   exact ⟨o', (hs.2 b (Nat.ne_of_lt (Nat.lt_of_lt_of_le (Heap.lt_size e) (I.ok.cab x c hfn hc)))).trans e1⟩
  ·by_cases hj : j = i
   ·subst hj
    rw [hi] at e1; cases e1
    rw [List.getElem?_set_self hiσ] at e2
    cases e2
    exact ⟨u, r, .inr ⟨.inl hk, c, hc, hc'⟩⟩
   ·rw [List.getElem?_set_ne (Ne.symm hj)] at e2
    obtain ⟨u', r', q⟩ := hl j y v' e1 e2 e3
    refine ⟨u', r', ?_⟩
    rcases q with q | ⟨k, c', e, z'⟩
    ·exact .inl q
    ·refine .inr ⟨k, c', e, z'.sameBut hs ?_⟩
     rintro rfl
     exact hj (nq hN e1 (I.ok.inj _ _ _ e hc ▸ hi))
  ·by_cases hcc : c' = c
   ·subst hcc; exact ⟨_, hc'⟩
   ·obtain ⟨w2, z2⟩ := I.cell y c' e
    exact ⟨w2, z2.sameBut hs hcc⟩
  ·obtain ⟨e, n, ne, nf, d⟩ := I.pin p hp
   refine ⟨(hs.2 p.1 ?_).trans e, n, ne, nf, d⟩
   intro q
   rw [q, hoc] at e
   have q' : oc = p.2 := Option.some.inj e
   exact d w' (by rw [<- q']; exact hocd)
theorem mQ {M : Model} {A : Around} {E : Value -> Shared -> Prop} {i : Nat} {x : Str} {v : V} {u : Value} {Q : Unit -> Shared -> Prop} (I : Inv X pins σ H s) (hN : X.N.Nodup) (hi : X.N[i]? = some x) (hx : Loc X.env.scope x) (r : RelV v u)
  (h : ∀ s', Inv X pins (σ.set i (some v)) H s' -> Q () s') (hf : X.fn x = true ∨ X.env.scope.names.lookup x = some .local := by first | exact .inl rfl | exact .inr rfl | assumption) : wpAny M A (storeName X.env x u) Q E s :=
 o0 I hN hi hx r (fun s' I' _ => h s' I') hf
theorem Inv.call' {s' : Shared} {ch : List Addr} (I : Inv X pins σ H s) (ho : s'.os = s.os) (u : Un (frs X.stack) ch H H' s.heap s'.heap) (hok : HOk X.prog X.w H' s'.heap) (hg : AllBare s'.gens)
  (hch : ∀ b ∈ ch, (b ∈ X.ex ∨ X.s_0.heap.objs.size <= b) /\ b ≠ X.env.locals /\ (∀ x c, X.env.cells.lookup x = some c -> c ≠ b) /\ ∀ p ∈ X.pn ++ pins, p.1 ≠ b) : Inv X pins σ H' s' := by
 obtain ⟨h', g', d', t', o'⟩ := s'
 have e : o' = s.os := ho
 subst e
 exact I.call (g' := g') (t' := t') (d' := d') u hok hg hch
end
abbrev XK := Value -> Option Addr -> Hp -> Prop
abbrev St := List (Option V)
abbrev VK := V -> Hp -> Prop
abbrev TE := St -> Hp -> VK -> Prop
abbrev TT := St -> Hp -> (Bool -> Hp -> Prop) -> Prop
abbrev TA := St -> Hp -> (List V -> Hp -> Prop) -> Prop
structure mH where
 nx : St -> Hp -> Prop
 rt : VK
 bk : St -> Hp -> Prop := fun _ _ => False
 ct : St -> Hp -> Prop := fun _ _ => False
abbrev TS := mH -> St -> Hp -> Prop
def EP (X : Cx) (pins : List (Addr × Obj)) (σ : St) (Q : VK) (u : Value) (s' : Shared) : Prop := ∃ v H', Inv X pins σ H' s' /\ RelV v u /\ Q v H'
def TP (X : Cx) (pins : List (Addr × Obj)) (σ : St) (Q : Bool -> Hp -> Prop) (b : Bool) (s' : Shared) : Prop := ∃ H', Inv X pins σ H' s' /\ Q b H'
def AP (X : Cx) (pins : List (Addr × Obj)) (σ : St) (Q : List V -> Hp -> Prop) (us : List Value) (s' : Shared) : Prop := ∃ vs H', Inv X pins σ H' s' /\ Vals vs us /\ Q vs H'
def SP (X : Cx) (pins : List (Addr × Obj)) (D : mH) (f : Flow) (s' : Shared) : Prop :=
 match f with
 | .next => ∃ σ' H', Inv X pins σ' H' s' /\ D.nx σ' H'
 | .brk => ∃ σ' H', Inv X pins σ' H' s' /\ D.bk σ' H'
 | .cont => ∃ σ' H', Inv X pins σ' H' s' /\ D.ct σ' H'
 | .ret u => ∃ v σ' H', Inv X pins σ' H' s' /\ RelV v u /\ D.rt v H'
def PE (X : Cx) (e : Expr) (t : TE) : Prop :=
 ∀ (pins : List (Addr × Obj)) (s : Shared) (σ : St) (H : Hp) (Q : VK), Inv X pins σ H s -> t σ H Q -> wpAny (model X.prog X.w) X.A (eval e X.env) (EP X pins σ Q) X.xe s
def PT (X : Cx) (e : Expr) (t : TT) : Prop :=
 ∀ (pins : List (Addr × Obj)) (s : Shared) (σ : St) (H : Hp) (Q : Bool -> Hp -> Prop), Inv X pins σ H s -> t σ H Q -> wpAny (model X.prog X.w) X.A (isTrue e X.env (eval e X.env)) (TP X pins σ Q) X.xe s
def PW (X : Cx) (e : Expr) (t : TT) : Prop :=
 ∀ (whole : Sem Value) (pins : List (Addr × Obj)) (s : Shared) (σ : St) (H : Hp) (Q : Bool -> Hp -> Prop), Inv X pins σ H s -> t σ H Q -> wpAny (model X.prog X.w) X.A (isTrue e X.env whole) (TP X pins σ Q) X.xe s
theorem PW.pt {X : Cx} {e : Expr} {t : TT} (h : PW X e t) : PT X e t := h _
def PA (X : Cx) (es : List Expr) (t : TA) : Prop :=
 ∀ (pos : Pos) (pins : List (Addr × Obj)) (s : Shared) (σ : St) (H : Hp) (Q : List V -> Hp -> Prop), Inv X pins σ H s -> t σ H Q -> wpAny (model X.prog X.w) X.A (spliced (backTo pos (starEach es X.env))) (AP X pins σ Q) X.xe s
def PS (X : Cx) (st : Stmt) (t : TS) : Prop :=
 ∀ (pins : List (Addr × Obj)) (s : Shared) (σ : St) (H : Hp) (D : mH), Inv X pins σ H s -> t D σ H -> wpAny (model X.prog X.w) X.A (exec st X.env) (SP X pins D) X.xe s
def PSs (X : Cx) (st : List Stmt) (t : TS) : Prop :=
 ∀ (pins : List (Addr × Obj)) (s : Shared) (σ : St) (H : Hp) (D : mH), Inv X pins σ H s -> t D σ H -> wpAny (model X.prog X.w) X.A (execs st X.env) (SP X pins D) X.xe s
theorem thn {α : Type} {t : Sem α} {Q Q' : α -> Shared -> Prop} {M : Model} {A : Around} {E : Value -> Shared -> Prop} {s : Shared} (h : wpAny M A t Q E s) (hQ : ∀ a s, Q a s -> Q' a s) : wpAny M A t Q' E s := wpAny_mono h hQ fun _ _ x => x
end L2
namespace L2
open PySem PySem.Spec PyProof.Rows
section
variable {X : Cx}
theorem bin {a b : Expr} {ta tb : TE} (ha : PE X a ta) (hb : PE X b tb) {pins : List (Addr × Obj)} {s : Shared} {σ : St} {H : Hp} {R : V -> V -> Hp -> Prop} (I : Inv X pins σ H s) (h : ta σ H fun x H1 => tb σ H1 fun y H2 => R x y H2)
  {α : Type} {Q : α -> Shared -> Prop} {f : Value -> Value -> Sem α}
  (hf : ∀ v u s2 x y H2, Inv X pins σ H2 s2 -> RelV x v -> RelV y u -> R x y H2 -> wpAny (model X.prog X.w) X.A (f v u) Q X.xe s2) :
  wpAny (model X.prog X.w) X.A (eval a X.env) (fun v s₁ => wpAny (model X.prog X.w) X.A (eval b X.env) (fun u s₂ => wpAny (model X.prog X.w) X.A (f v u) Q X.xe s₂) X.xe s₁) X.xe s := by
 refine thn (ha pins s σ H _ I h) fun v s1 ⟨x, H1, I1, r1, q1⟩ => ?_
 refine thn (hb pins s1 σ H1 _ I1 q1) fun u s2 ⟨y, H2, I2, r2, q2⟩ => ?_
 exact hf v u s2 x y H2 I2 r1 r2 q2
def Df (i : Nat) : TE := fun σ H Q => ∃ v, σ[i]? = some (some v) /\ Q v H
def tC (v : V) : TE := fun _ H Q => Q v H
theorem vK {i : Nat} {x : Str} {pos : Pos} (hN : X.N[i]? = some x) (hv : Vis X.env.scope x) (hd : (x == ("__debug__" : Str)) = false := by decide) (hcd : (x == ("__classdict__" : Str)) = false := by decide) : PE X (.Name x pos) (Df i) := by
 intro pins s σ H Q I h
 obtain ⟨v, e, h⟩ := h
 obtain ⟨m, hn, hl⟩ := I.loc
 obtain ⟨u, r, l⟩ := hl i x v hN e hv
 have fin : EP X pins σ Q u s := ⟨v, H, I, r, h⟩
 rcases l with ⟨hk, hm⟩ | ⟨hk, c, hc, hcell⟩
 ·exact wpAny_Name (wpAny_loadName_local I.ok.kind hk hn hm fin) hd
 ·rcases hk with hk | hk
  ·exact wpAny_Name (wpAny_loadName_cell I.ok.kind hk hc hcell fin) hd
  ·exact wpAny_Name (wpAny_loadName_free I.ok.kind hk hc hcell fin hcd) hd
theorem ap {i j pos} : PE X (.Constant (.int i) j pos) (tC (.int i)) := fun _ _ _ H _ I h => wpAny_Constant_int ⟨.int i, H, I.tok _, ⟨_, rfl⟩, h⟩
theorem l8 {b j pos} : PE X (.Constant (.bool b) j pos) (tC (.bl b)) := fun _ _ _ H _ I h => Constant_bool ⟨.bl b, H, I, rfl, h⟩
theorem mY {j pos} : PE X (.Constant .none j pos) (tC .non) := fun _ _ _ H _ I h => Constant_none ⟨.non, H, I, rfl, h⟩
theorem aw {x j pos} : PE X (.Constant (.str x) j pos) (tC (.str x)) := fun _ _ _ H _ I h => Calls.Constant_str ⟨.str x, H, I.tok _, ⟨_, rfl⟩, h⟩
def Gl (X : Cx) (x : Str) : Prop := X.env.kindOf x = some .globalImplicit
theorem fH {E : Value -> Shared -> Prop} {pins : List (Addr × Obj)} {s : Shared} {σ : St} {H : Hp} {x : Str} {u : Value} {pos : Pos} {Q : Value -> Shared -> Prop} (I : Inv X pins σ H s) (hg : Gl X x) (hm : X.mg x = some u) (h : Q u s)
  (hd : (x == ("__debug__" : Str)) = false := by decide) : wpAny (model X.prog X.w) X.A (eval (.Name x pos) X.env) Q E s :=
 Calls.Name_function_global I.ok.kind hg (Calls.loadGlobal_global (by rw [I.ok.glob]; exact I.mod.glob.keeps I.bk) hm h) hd
theorem rY {E : Value -> Shared -> Prop} {pins : List (Addr × Obj)} {s : Shared} {σ : St} {H : Hp} {x : Str} {u : Value} {pos : Pos} {Q : Value -> Shared -> Prop} (I : Inv X pins σ H s) (hg : Gl X x) (hm : X.mg x = none) (hv : bootBuiltins x = some u) (h : Q u s)
  (hn : x ≠ "__name__" := by decide) (hd : (x == ("__debug__" : Str)) = false := by decide) : wpAny (model X.prog X.w) X.A (eval (.Name x pos) X.env) Q E s := by
 obtain ⟨mb, h1, h2⟩ := I.mod.blt
 exact Calls.Name_function_global I.ok.kind hg (Calls.loadGlobal_builtin (by rw [I.ok.glob]; exact I.mod.glob.keeps I.bk) hm (by rw [I.ok.blt]; exact h1.keeps I.bk) ((h2 x hn).trans hv) h) hd
theorem sR {x : Str} {v : V} {u : Value} {pos : Pos} (hg : Gl X x) (hm : X.mg x = some u) (r : RelV v u) (hd : (x == ("__debug__" : Str)) = false := by decide) : PE X (.Name x pos) (tC v) :=
 fun _ _ _ H _ I h => fH I hg hm ⟨v, H, I, r, h⟩ hd
variable {a b : Expr} {ta tb : TE} {pos : Pos}
def PC (X : Cx) (op : CmpOp) (a b : Expr) (t : TE) : Prop :=
 ∀ (pins : List (Addr × Obj)) (s : Shared) (σ : St) (H : Hp) (Q : VK), Inv X pins σ H s -> t σ H Q ->
   wpAny (model X.prog X.w) X.A (eval a X.env) (fun v s₁ => wpAny (model X.prog X.w) X.A (eval b X.env) (fun u s₂ => wpAny (model X.prog X.w) X.A (compareOp op v u) (EP X pins σ Q) X.xe s₂) X.xe s₁) X.xe s
theorem bq (b : Expr) {op : CmpOp} (h : op ≠ .In) (h2 : op ≠ .NotIn) : behindInMarks op b = false := by
 have e1 : (op == CmpOp.In) = false := by cases op <;> first | rfl | exact absurd rfl h
 have e2 : (op == CmpOp.NotIn) = false := by cases op <;> first | rfl | exact absurd rfl h2
 cases b <;> simp [behindInMarks, e1, e2]
def tB (t : TE) : TT := fun σ H Q => t σ H fun x H1 => ∃ c, x = .bl c /\ Q c H1
theorem B9 {op : CmpOp} {t : TE} (h : PC X op a b t) (h1 : behindInMarks op b = false := by first | exact bq _ (by decide) (by decide) | rfl) : PT X (.Compare a [op] [b] pos) (tB t) := by
 intro pins s σ H Q I hw
 refine wpAny_isTrue_Compare1 (thn (h pins s σ H _ I hw) fun v s1 h1 => thn h1 fun u s2 h2 => thn h2 fun c s3 ⟨x, H1, I1, r1, q1⟩ => ?_) h1
 obtain ⟨d, rfl, q⟩ := q1
 cases r1
 exact wpAny_truthy_bool ⟨H1, I1, q⟩
variable {tA tB' : TT} {rest : List Expr}
def C2 (t u : TT) : TT := fun σ H Q => t σ H fun c H1 => if c = true then u σ H1 Q else Q false H1
def tOr (t u : TT) : TT := fun σ H Q => t σ H fun c H1 => if c = true then Q true H1 else u σ H1 Q
def Bh (t : TT) : TT := fun σ H Q => t σ H fun c H1 => Q (!c) H1
theorem jX (ha : PT X a tA) : PW X (.BoolOp .And [a] pos) tA := by
 intro wh pins s σ H Q I h
 refine isTrue_and (thn (ha pins s σ H Q I h) fun c s1 e => ?_)
 cases c with
 | true => exact isTrue_and_nil e
 | false => exact e
theorem gA (ha : PT X a tA) : PW X (.BoolOp .Or [a] pos) tA := by
 intro wh pins s σ H Q I h
 refine isTrue_or (thn (ha pins s σ H Q I h) fun c s1 e => ?_)
 cases c with
 | false => exact isTrue_or_nil e
 | true => exact e
theorem mf (ha : PT X a tA) (hb : PW X (.BoolOp .And (b :: rest) pos) tB') : PW X (.BoolOp .And (a :: b :: rest) pos) (C2 tA tB') := by
 intro wh pins s σ H Q I h
 refine isTrue_and (thn (ha pins s σ H _ I h) fun c s1 ⟨H1, I1, q1⟩ => ?_)
 cases c with
 | true => exact hb wh pins s1 σ H1 Q I1 q1
 | false => exact ⟨H1, I1, q1⟩
theorem lh (ha : PT X a tA) (hb : PW X (.BoolOp .Or (b :: rest) pos) tB') : PW X (.BoolOp .Or (a :: b :: rest) pos) (tOr tA tB') := by
 intro wh pins s σ H Q I h
 refine isTrue_or (thn (ha pins s σ H _ I h) fun c s1 ⟨H1, I1, q1⟩ => ?_)
 cases c with
 | true => exact ⟨H1, I1, q1⟩
 | false => exact hb wh pins s1 σ H1 Q I1 q1
theorem fL (ha : PT X a tA) : PT X (.UnaryOp .Not a pos) (Bh tA) := by
 intro pins s σ H Q I h
 exact isTrue_not (ha pins s σ H (fun c H1 => Q (!c) H1) I h)
theorem jm {op} {t : TE} (h : PE X a t) : PE X (.BoolOp op [a] pos) t := fun pins s σ H Q I hw => BoolOp_one (h pins s σ H Q I hw)
end
end L2
namespace L2
open PySem PySem.Spec PyProof.Rows
def SqL (K : Frag) (H : Hp) (a : Addr) (xs : List V) : Prop :=
 Rd H a (.lst xs) ∨
  ∃ (o : Obj) (its : Array Value) (n : Nat), K.lookup a = some o /\ o.cls = .type "list" /\ o.dict = none /\ o.data = .seq its n /\ its.size <= sizeLine /\ Vals xs its.toList
def SqT (K : Frag) (H : Hp) (a : Addr) (xs : List V) : Prop :=
 Rd H a (.tup xs) ∨
  ∃ (o : Obj) (its : Array Value) (n : Nat), K.lookup a = some o /\ o.cls = .type "tuple" /\ o.data = .seq its n /\ its.size <= sizeLine /\ Vals xs its.toList
def Dg : Value -> Option V
 | .none => some .non
 | .bool b => some (.bl b)
 | .int i _ => some (.int i)
 | .str x _ => some (.str x)
 | .bytes b _ => some (.byt b)
 | .float b _ => some (.flt b)
 | .ref a => some (.ref a)
 | .type n => some (.ty n)
 | _ => none
theorem RelV.abs {x : V} {u : Value} (r : RelV x u) : Dg u = some x := by
 cases x with
 | non => cases r; rfl
 | bl _ => cases r; rfl
 | int _ => obtain ⟨t, rfl⟩ := r; rfl
 | str _ => obtain ⟨t, rfl⟩ := r; rfl
 | byt _ => obtain ⟨t, rfl⟩ := r; rfl
 | flt _ => obtain ⟨t, rfl⟩ := r; rfl
 | ref _ => cases r; rfl
 | ty _ => cases r; rfl
theorem RelV.inj {x y : V} {u : Value} (r : RelV x u) (q : RelV y u) : x = y := Option.some.inj (r.abs.symm.trans q.abs)
theorem Vals.inj : ∀ {xs ys : List V} {us : List Value}, Vals xs us -> Vals ys us -> xs = ys
 | _, _, _, .nil, .nil => rfl
 | _, _, _, .cons r t, .cons r' t' => by rw [r.inj r', Vals.inj t t']
section
variable {X : Cx} {pins : List (Addr × Obj)} {σ : St} {H : Hp} {s : Shared} {a : Addr} {xs ys : List V}
theorem SqL.of {K : Frag} (h : H a = some (.lst xs)) : SqL K H a xs := .inl (.inl h)
theorem Inv.list (I : Inv X pins σ H s) (h : SqL X.K H a xs) : ∃ its : List Value, Vals xs its /\ PlainL s.heap a its.toArray /\ xs.length <= sizeLine := by
 rcases h with h | ⟨o, its, n, hk, hc, hd, hs, hz, r⟩
 ·obtain ⟨z, its, n, r, e⟩ := h.ok I.hok
  exact ⟨its, r, ⟨_, n, e, rfl, rfl, rfl⟩, z⟩
 ·refine ⟨its.toList, r, ⟨o, n, I.kIn a o hk, hc, hd, by simpa using hs⟩, ?_⟩
  have e := r.length
  simp only [Array.length_toList] at e
  omega
theorem Inv.tuple (I : Inv X pins σ H s) (h : SqT X.K H a xs) : ∃ its : List Value, Vals xs its /\ IsTup s.heap a its.toArray /\ xs.length <= sizeLine := by
 rcases h with h | ⟨o, its, n, hk, hc, hs, hz, r⟩
 ·obtain ⟨z, its, r, p⟩ := h.ok I.hok
  exact ⟨its, r, p, z⟩
 ·refine ⟨its.toList, r, ⟨o, I.kIn a o hk, hc, n, by simpa using hs⟩, ?_⟩
  have e := r.length
  simp only [Array.length_toList] at e
  omega
theorem Inv.list_inj (I : Inv X pins σ H s) (h : SqL X.K H a xs) (h' : SqL X.K H a ys) : xs = ys := by
 obtain ⟨its, r, ⟨o, n, e, _, _, d⟩, _⟩ := I.list h
 obtain ⟨its', r', ⟨o', n', e', _, _, d'⟩, _⟩ := I.list h'
 rw [e] at e'; cases e'
 rw [d] at d'
 injection d' with d1 _
 have : its = its' := by simpa using congrArg Array.toList d1
 subst this
 exact r.inj r'
theorem Inv.tuple_inj (I : Inv X pins σ H s) (h : SqT X.K H a xs) (h' : SqT X.K H a ys) : xs = ys := by
 obtain ⟨its, r, ⟨o, e, _, n, d⟩, _⟩ := I.tuple h
 obtain ⟨its', r', ⟨o', e', _, n', d'⟩, _⟩ := I.tuple h'
 rw [e] at e'; cases e'
 rw [d] at d'
 injection d' with d1 _
 have : its = its' := by simpa using congrArg Array.toList d1
 subst this
 exact r.inj r'
end
abbrev Cx.wish (X : Cx) (E : Value -> Shared -> Prop) : Cx := { X with xe := E }
theorem Cx.Ok.wish {X : Cx} (ok : X.Ok) (E : Value -> Shared -> Prop) : (X.wish E).Ok :=
 ⟨ok.mod, ok.kind, ok.glob, ok.blt, ok.above, ok.inj, ok.has, ok.cab, ok.hd, ok.frames, ok.stk, ok.exf, ok.bs, ok.bsz, ok.noex, ok.exfs, ok.funs, ok.frf⟩
theorem Cx.Ok.unwish {X : Cx} {E : Value -> Shared -> Prop} (ok : (X.wish E).Ok) : X.Ok :=
 ⟨ok.mod, ok.kind, ok.glob, ok.blt, ok.above, ok.inj, ok.has, ok.cab, ok.hd, ok.frames, ok.stk, ok.exf, ok.bs, ok.bsz, ok.noex, ok.exfs, ok.funs, ok.frf⟩
section
variable {X : Cx} {pins : List (Addr × Obj)} {σ : St} {H : Hp} {s : Shared} {E : Value -> Shared -> Prop}
theorem Inv.wish (I : Inv X pins σ H s) (E : Value -> Shared -> Prop) : Inv (X.wish E) pins σ H s := ⟨I.ok.wish E, I.os, I.bare, I.base, I.loc, I.cell, I.free, I.freeC, I.pin, I.hok, I.len⟩
theorem Inv.unwish (I : Inv (X.wish E) pins σ H s) : Inv X pins σ H s := ⟨I.ok.unwish, I.os, I.bare, I.base, I.loc, I.cell, I.free, I.freeC, I.pin, I.hok, I.len⟩
theorem SP.unwish {D : mH} {f : Flow} {s' : Shared} (h : SP (X.wish E) pins D f s') : SP X pins D f s' := by
 cases f with
 | next => obtain ⟨σ', H', I, q⟩ := h; exact ⟨σ', H', I.unwish, q⟩
 | brk => obtain ⟨σ', H', I, q⟩ := h; exact ⟨σ', H', I.unwish, q⟩
 | cont => obtain ⟨σ', H', I, q⟩ := h; exact ⟨σ', H', I.unwish, q⟩
 | ret u => obtain ⟨v, σ', H', I, r, q⟩ := h; exact ⟨v, σ', H', I.unwish, r, q⟩
end
section
variable {X : Cx} {st : Stmt} {rest : List Stmt} {t u : TS} {e : Expr} {te : TE} {pos : Pos}
def xQ : TS := fun D σ H => D.nx σ H
def wY (t u : TS) : TS := fun D σ H => t { D with nx := u D } σ H
theorem am : PSs X [] xQ := fun _ _ σ H _ I h => wpAny_execs_nil ⟨σ, H, I, h⟩
theorem a9 (h1 : PS X st t) (h2 : PSs X rest u) : PSs X (st :: rest) (wY t u) := by
 intro pins s σ H D I h
 refine wpAny_execs_cons (thn (h1 pins s σ H { D with nx := u D } I h) fun f s1 q => ?_)
 cases f with
 | next =>
   obtain ⟨σ', H', I', q⟩ := q
   exact h2 pins s1 σ' H' D I' q
 | ret v => exact q
 | brk => exact q
 | cont => exact q
theorem ac (h1 : PS X st t) : PSs X [st] t := by
 intro pins s σ H D I h
 refine wpAny_execs_cons (thn (h1 pins s σ H D I h) fun f s1 q => ?_)
 cases f with
 | next => exact wpAny_execs_nil q
 | ret v => exact q
 | brk => exact q
 | cont => exact q
theorem Inv.quiet {pins : List (Addr × Obj)} {σ : St} {H : Hp} {s : Shared} (I : Inv X pins σ H s) : interactive X.env = false := by simp [interactive, I.ok.kind]
def xY (te : TE) : TS := fun D σ H => te σ H fun _ H1 => D.nx σ H1
theorem aA (he : PE X e te) (hs : swapsWith e none pos.line X.env = pure false := by rfl) : PS X (.Expr e pos) (xY te) := by
 intro pins s σ H D I h
 exact wpAny_Expr_any (thn (he pins s σ H _ I h) fun v s1 ⟨x, H1, I1, r1, q1⟩ => ⟨σ, H1, I1, q1⟩) I.quiet hs
def xy (te : TE) : TS := fun D σ H => te σ H D.rt
theorem aj (he : PE X e te) : PS X (.Return (some e) pos) (xy te) := by
 intro pins s σ H D I h
 exact wpAny_Return_some (thn (he pins s σ H _ I h) fun v s1 ⟨x, H1, I1, r1, q1⟩ => ⟨x, σ, H1, I1, r1, q1⟩)
def Bs (c : TT) (t u : TS) : TS := fun D σ H => c σ H fun b H1 => if b = true then t D σ H1 else u D σ H1
theorem aE {c : Expr} {a b : List Stmt} {tc : TT} (hc : PT X c tc) (ha : PSs X a t) (hb : PSs X b u) : PS X (.If c a b pos) (Bs tc t u) := by
 intro pins s σ H D I h
 refine wpAny_If (thn (hc pins s σ H _ I h) fun d s1 ⟨H1, I1, q1⟩ => ?_)
 cases d with
 | true => exact ha pins s1 σ H1 D I1 q1
 | false => exact hb pins s1 σ H1 D I1 q1
end
abbrev TG := V -> St -> Hp -> (St -> Hp -> Prop) -> Prop
def PG (X : Cx) (target : Expr) (t : TG) : Prop :=
 ∀ (pins : List (Addr × Obj)) (s : Shared) (σ : St) (H : Hp) (v : V) (u : Value) (Q : St -> Hp -> Prop), Inv X pins σ H s -> RelV v u -> t v σ H Q ->
   wpAny (model X.prog X.w) X.A (assign target X.env u) (fun _ s' => ∃ σ' H', Inv X pins σ' H' s' /\ Q σ' H') X.xe s
abbrev TIp := V -> V -> Hp -> VK -> Prop
def PIp (X : Cx) (op : Operator) (t : TIp) : Prop :=
 ∀ (pins : List (Addr × Obj)) (s : Shared) (σ : St) (H : Hp) (x y : V) (v u : Value) (Q : VK), Inv X pins σ H s -> RelV x v -> RelV y u -> t x y H Q ->
   wpAny (model X.prog X.w) X.A (inplaceOp op v u) (EP X pins σ Q) X.xe s
section
variable {X : Cx} {pos : Pos}
def o7 (i : Nat) : TG := fun v σ H Q => Q (σ.set i (some v)) H
theorem cO {i : Nat} {x : Str} (hN : X.N.Nodup) (hi : X.N[i]? = some x) (hx : Loc X.env.scope x) (hf : X.fn x = true ∨ X.env.scope.names.lookup x = some .local := by first | exact .inl rfl | exact .inr rfl | assumption) : PG X (.Name x pos) (o7 i) := by
 intro pins s σ H v u Q I r h
 exact wpAny_assign_Name (mQ I hN hi hx r (fun s' I' => ⟨_, H, I', h⟩) hf)
def vT (te : TE) (g : TG) : TS := fun D σ H => te σ H fun x H1 => g x σ H1 D.nx
theorem zn {i : Nat} {x : Str} {e : Expr} {te : TE} {pos' : Pos} (hN : X.N.Nodup) (hi : X.N[i]? = some x) (hx : Loc X.env.scope x) (he : PE X e te) (hs : swapsWith e (some (.Name x pos')) pos.line X.env = pure false := by rfl) (hf : X.fn x = true ∨ X.env.scope.names.lookup x = some .local := by first | exact .inl rfl | exact .inr rfl | assumption) :
  PS X (.Assign [.Name x pos'] e pos) (vT te (o7 i)) := by
 intro pins s σ H D I h
 refine wpAny_Assign_Name (thn (he pins s σ H _ I h) fun v s1 ⟨y, H1, I1, r1, q1⟩ => ?_) hs
 exact mQ I1 hN hi hx r1 (fun s2 I2 => ⟨_, H1, I2, q1⟩) hf
def CZ (i : Nat) (te : TE) (ti : TIp) : TS := fun D σ H => ∃ x, σ[i]? = some (some x) /\ te σ H fun y H1 => ti x y H1 fun z H2 => D.nx (σ.set i (some z)) H2
theorem AV {i : Nat} {x : Str} {e : Expr} {te : TE} {op : Operator} {ti : TIp} {pos' : Pos} (hN : X.N.Nodup) (hi : X.N[i]? = some x) (hx : Loc X.env.scope x) (he : PE X e te) (ho : PIp X op ti) (hf : X.fn x = true ∨ X.env.scope.names.lookup x = some .local := by first | exact .inl rfl | exact .inr rfl | assumption) :
  PS X (.AugAssign (.Name x pos') op e pos) (CZ i te ti) := by
 intro pins s σ H D I h
 obtain ⟨v, e1, h⟩ := h
 obtain ⟨m, hn, hl⟩ := I.loc
 have vis : Vis X.env.scope x := by rcases hx with k | k; exact .inl k; exact .inr (.inl k)
 obtain ⟨u, r, l⟩ := hl i x v hi e1 vis
 refine wpAny_AugAssign_Name ?_
 have go : wpAny (model X.prog X.w) X.A (eval e X.env) (fun w s₂ => wpAny (model X.prog X.w) X.A (inplaceOp op u w) (fun r s₃ => wpAny (model X.prog X.w) X.A (storeName X.env x r) (fun _ => SP X pins D .next) X.xe s₃) X.xe s₂) X.xe s := by
  refine thn (he pins s σ H _ I h) fun w s1 ⟨y, H1, I1, r1, q1⟩ => ?_
  refine thn (ho pins s1 σ H1 v y u w _ I1 r r1 q1) fun z s2 ⟨zv, H2, I2, r2, q2⟩ => ?_
  exact mQ I2 hN hi hx r2 (fun s3 I3 => ⟨_, H2, I3, q2⟩) hf
 rcases l with ⟨hk, hm⟩ | ⟨hk, c, hc, hcell⟩
 ·exact wpAny_loadName_local I.ok.kind hk hn hm go
 ·rcases hk with hk | hk
  ·exact wpAny_loadName_cell I.ok.kind hk hc hcell go
  ·rcases hx with k | k
   ·have : X.env.scope.names.lookup x = some .free := hk
    rw [k] at this; cases this
   ·have : X.env.scope.names.lookup x = some .free := hk
    rw [k] at this; cases this
end
section
variable {X : Cx} {pos : Pos}
def yD (c : TT) (tb : TS) : TS := fun D σ H => ∃ W : Nat -> St -> Hp -> Prop, (∃ m, W m σ H) /\ ∀ m σ H, W m σ H ->
 c σ H fun b H1 => if b = true then ∃ N : St -> Hp -> Prop, (∀ σ' H', N σ' H' -> ∃ m', m' < m /\ W m' σ' H') /\ tb { D with nx := N, ct := N, bk := D.nx } σ H1 else D.nx σ H1
theorem bv {c : Expr} {body : List Stmt} {tc : TT} {tb : TS} (hp : PassesOwn (model X.prog X.w) X.A X.env X.xe) (hc : PT X c tc) (hb : PSs X body tb) : PS X (.While c body [] pos) (yD tc tb) := by
 intro pins s σ H D I h
 obtain ⟨W, ⟨m0, w0⟩, turn⟩ := h
 refine wpAny_While (codeAny_whileLoop (fun n s' => ∃ σ' H', Inv X pins σ' H' s' /\ W n σ' H') ?_ m0 ⟨σ, H, I, w0⟩)
 rintro n s1 ⟨σ1, H1, I1, w1⟩
 refine wpAny_passesOwn hp (thn (hc pins s1 σ1 H1 _ I1 (turn n σ1 H1 w1)) fun b s2 ⟨H2, I2, q2⟩ => ?_)
 cases b with
 | true =>
   obtain ⟨N, hN, q2⟩ := q2
   rw [if_pos rfl]
   refine wpAny_passesOwn hp (thn (hb pins s2 σ1 H2 _ I2 q2) fun f s3 q3 => ?_)
   cases f with
   | next =>
     obtain ⟨σ3, H3, I3, n3⟩ := q3
     obtain ⟨m', hm, w3⟩ := hN σ3 H3 n3
     exact ⟨m', hm, σ3, H3, I3, w3⟩
   | cont =>
     obtain ⟨σ3, H3, I3, n3⟩ := q3
     obtain ⟨m', hm, w3⟩ := hN σ3 H3 n3
     exact ⟨m', hm, σ3, H3, I3, w3⟩
   | brk => exact q3
   | ret v => exact q3
 | false =>
   rw [if_neg Bool.false_ne_true]
   exact wpAny_execs_nil ⟨σ1, H2, I2, q2⟩
end
structure It where
 go : Nat -> Hp -> Prop
 yld : Nat -> Hp -> V -> Hp -> Prop
 stop : Nat -> Hp -> Prop
def lq (X : Cx) (pins : List (Addr × Obj)) (H : Hp) (b : Addr) : Prop :=
 H b = none /\ b ≠ X.env.locals /\ b ∉ X.fs /\ (b ∈ X.ex ∨ X.s_0.heap.objs.size <= b) /\ (∀ x c, X.env.cells.lookup x = some c -> c ≠ b) /\ ∀ p ∈ X.pn ++ pins, p.1 ≠ b
theorem Inv.fpOk {X : Cx} {pins : List (Addr × Obj)} {σ : St} {H H' : Hp} {s : Shared} {b : Addr} (I : Inv X pins σ H s) (hb : s.heap.objs.size <= b) (hn : H' b = none) : lq X pins H' b := by
 refine ⟨hn, Nat.ne_of_gt (Nat.lt_of_lt_of_le I.lt hb), I.nofs hb, .inr (Nat.le_trans I.sz hb), fun x c e z => ?_, fun p hp z => ?_⟩
 ·obtain ⟨v, q⟩ := I.cell x c e
  exact absurd (Nat.lt_of_lt_of_le q.lt (by rw [z]; exact hb)) (Nat.lt_irrefl _)
 ·exact absurd (Nat.lt_of_lt_of_le (Heap.lt_size (I.pin p hp).1) (by rw [z]; exact hb)) (Nat.lt_irrefl _)
structure uy (P : Program) (w : World) (K : Frag) (tg : Expr) (J : It) (fp : List Addr) (it : Addr) (tn : Nat -> Heap -> Prop) : Prop where
 mem : it ∈ fp
 obj : ∀ i h, tn i h -> ∀ b ∈ fp, ∃ o, h.get? b = some o /\ ∀ v, o.data ≠ .cell v
 keep : ∀ i h h', tn i h -> (∀ b ∈ fp, ∀ o, h.get? b = some o -> h'.get? b = some o) -> tn i h'
 item : ∀ (X : Cx), X.prog = P -> X.w = w -> X.K = K -> X.calm = true -> ∀ (i : Nat) (pins : List (Addr × Obj)) (s : Shared) (σ : St) (H : Hp) (E : Value -> Shared -> Prop), Inv X pins σ H s -> (∀ b ∈ fp, lq X pins H b) -> tn i s.heap -> J.go i H ->
  wpAny (model P w) X.A (pyNext (.ref it)) (fun r s1 => ∃ u, r = some u /\
   wpAny (model P w) X.A (letOwnedTupleGo tg (.ref it) u) (fun _ s2 => ∃ x H', Inv X pins σ H' s2 /\ RelV x u /\ J.yld i H x H' /\ tn (i + 1) s2.heap /\ ∀ b ∈ fp, H' b = none) E s1) E s
 done : ∀ (X : Cx), X.prog = P -> X.w = w -> X.K = K -> X.calm = true -> ∀ (i : Nat) (pins : List (Addr × Obj)) (s : Shared) (σ : St) (H : Hp) (E : Value -> Shared -> Prop), Inv X pins σ H s -> (∀ b ∈ fp, lq X pins H b) -> tn i s.heap -> J.stop i H ->
  wpAny (model P w) X.A (pyNext (.ref it)) (fun r s1 => r = none /\ Inv X pins σ H s1) E s
 self : ∀ (A : Around) (i : Nat) (s : Shared) (Q : Value -> Shared -> Prop) (E : Value -> Shared -> Prop), tn i s.heap -> Q (.ref it) s -> wpAny (model P w) A (pyIter (.ref it)) Q E s
abbrev TI := St -> Hp -> (It -> Hp -> Prop) -> Prop
def PIE (X : Cx) (pins : List (Addr × Obj)) (σ : St) (tg : Expr) (R : It -> Hp -> Prop) (itv : Value) (s2 : Shared) : Prop :=
 ∃ (it : Addr) (fp : List Addr) (tn : Nat -> Heap -> Prop) (J : It) (H' : Hp), itv = .ref it /\ Inv X pins σ H' s2 /\ uy X.prog X.w X.K tg J fp it tn /\ tn 0 s2.heap /\ (∀ b ∈ fp, lq X pins H' b) /\ R J H'
def PI (X : Cx) (tg iter : Expr) (wi : TI) : Prop :=
 ∀ (pins : List (Addr × Obj)) (s : Shared) (σ : St) (H : Hp) (R : It -> Hp -> Prop), Inv X pins σ H s -> wi σ H R ->
   wpAny (model X.prog X.w) X.A (eval iter X.env) (fun v s1 => wpAny (model X.prog X.w) X.A (pyIter v) (PIE X pins σ tg R) X.xe s1) X.xe s
theorem wa {M : Model} {A : Around} {E : Value -> Shared -> Prop} {s : Shared} {tg : Expr} {it : Addr} {u : Value} {o : Obj} {n : String} {vs : Array Value} {Q : Unit -> Shared -> Prop} (ho : s.heap.get? it = some o) (hc : o.cls = .type n) (hd : o.data = .fields vs)
  (hn : ["enumerate", "zip", "dict_itemiterator", "dict_reverseitemiterator", "odict_iterator", "itertools.zip_longest", "itertools.pairwise"].contains n = false) (hQ : Q () s) : wpAny M A (letOwnedTupleGo tg (.ref it) u) Q E s := by
 unfold letOwnedTupleGo
 cases tg <;> first
  | exact wpAny_pure hQ
  | (cases u <;> first
    | exact wpAny_pure hQ
    | (refine wpAny_bind (wpAny_load ho ?_)
       rw [hc, hd]
       show wpAny M A (if (["enumerate", "zip", "dict_itemiterator", "dict_reverseitemiterator", "odict_iterator", "itertools.zip_longest", "itertools.pairwise"].contains n && vs[0]? == some (rawInt _)) = true then _ else _) Q E s
       rw [if_neg (by intro h; rw [hn, Bool.false_and] at h; cases h)]
       exact wpAny_pure hQ))
def Itl (K : Frag) (a : Addr) : It :=
 ⟨fun i H => ∃ xs x, SqL K H a xs /\ xs[i]? = some x, fun i H x H' => H' = H /\ ∀ xs, SqL K H a xs -> xs[i]? = some x, fun i H => ∃ xs, SqL K H a xs /\ xs.length <= i⟩
def Itt (K : Frag) (a : Addr) : It :=
 ⟨fun i H => ∃ xs x, SqT K H a xs /\ xs[i]? = some x, fun i H x H' => H' = H /\ ∀ xs, SqT K H a xs -> xs[i]? = some x, fun i H => ∃ xs, SqT K H a xs /\ xs.length <= i⟩
theorem um {P : Program} {w : World} {K : Frag} {tg : Expr} (a it : Addr) : uy P w K tg (Itl K a) [it] it (fun i h => h.IsListIter it a i) where
 mem := by simp
 obj := fun i h st b hb => by
  have e : b = it := by simpa using hb
  subst e
  obtain ⟨o, e, c, d⟩ := st
  exact ⟨o, e, fun v z => by rw [d] at z; cases z⟩
 keep := fun i h h' st k => st.at fun o e => k it (by simp) o e
 item := by
  intro X hP hw hK hc i pins s σ H E I hf st hg
  subst hP hw hK
  obtain ⟨xs, x, hq, hx⟩ := hg
  obtain ⟨its, rv, p, hz⟩ := I.list hq
  obtain ⟨u, hu, ru⟩ := rv.get hx
  obtain ⟨f0, f1, f2, f3, f4, f5⟩ := hf it (by simp)
  refine wpAny_pyNext_list_item st p.isList (x := u) (by simpa using hu) fun h' st' sb => ?_
  have I1 : Inv X pins σ H { s with heap := h' } := I.turned (t' := s.toks) (fun b o hb e => (sb.2 b hb).trans e) f0 f1 f3 f4 f5
  obtain ⟨o, e, c, d⟩ := id st'
  exact ⟨u, rfl, wa (s := { s with heap := h' }) e c d (by decide) ⟨x, H, I1, ru, ⟨rfl, fun ys hy => by rw [I.list_inj hy hq]; exact hx⟩, st', fun b hb => (hf b hb).1⟩⟩
 done := by
  intro X hP hw hK hc i pins s σ H E I hf st hg
  subst hP hw hK
  obtain ⟨xs, hq, hx⟩ := hg
  obtain ⟨its, rv, p, hz⟩ := I.list hq
  obtain ⟨f0, f1, f2, f3, f4, f5⟩ := hf it (by simp)
  have hl := rv.length
  exact wpAny_pyNext_list_end (I.ok.hd hc) st p.isList (by simp; omega) fun h' eb => ⟨rfl, I.turned (t' := s.toks) (fun b o hb e => eb b o hb e) f0 f1 f3 f4 f5⟩
 self := fun _ _ _ _ _ st h => wpAny_pyIter_listiter st h
theorem si {P : Program} {w : World} {K : Frag} {tg : Expr} (a it : Addr) : uy P w K tg (Itt K a) [it] it (fun i h => h.IsTupleIter it a i) where
 mem := by simp
 obj := fun i h st b hb => by
  have e : b = it := by simpa using hb
  subst e
  obtain ⟨o, e, c, d⟩ := st
  exact ⟨o, e, fun v z => by rw [d] at z; cases z⟩
 keep := fun i h h' st k => st.at fun o e => k it (by simp) o e
 item := by
  intro X hP hw hK hc i pins s σ H E I hf st hg
  subst hP hw hK
  obtain ⟨xs, x, hq, hx⟩ := hg
  obtain ⟨its, rv, p, hz⟩ := I.tuple hq
  obtain ⟨u, hu, ru⟩ := rv.get hx
  obtain ⟨f0, f1, f2, f3, f4, f5⟩ := hf it (by simp)
  refine wpAny_pyNext_tuple_item st (show s.heap.IsTuple a its.toArray from p) (x := u) (by simpa using hu) fun h' st' sb => ?_
  have I1 : Inv X pins σ H { s with heap := h' } := I.turned (t' := s.toks) (fun b o hb e => (sb.2 b hb).trans e) f0 f1 f3 f4 f5
  obtain ⟨o, e, c, d⟩ := id st'
  exact ⟨u, rfl, wa (s := { s with heap := h' }) e c d (by decide) ⟨x, H, I1, ru, ⟨rfl, fun ys hy => by rw [I.tuple_inj hy hq]; exact hx⟩, st', fun b hb => (hf b hb).1⟩⟩
 done := by
  intro X hP hw hK hc i pins s σ H E I hf st hg
  subst hP hw hK
  obtain ⟨xs, hq, hx⟩ := hg
  obtain ⟨its, rv, p, hz⟩ := I.tuple hq
  obtain ⟨f0, f1, f2, f3, f4, f5⟩ := hf it (by simp)
  have hl := rv.length
  exact wpAny_pyNext_tuple_end (I.ok.hd hc) st (show s.heap.IsTuple a its.toArray from p) (by simp; omega) fun h' eb => ⟨rfl, I.turned (t' := s.toks) (fun b o hb e => eb b o hb e) f0 f1 f3 f4 f5⟩
 self := fun _ _ _ _ _ st h => wpAny_pyIter_tupleiter st h
end L2
namespace L2
open PySem PySem.Spec PyProof.Rows
section
variable {X : Cx} {tg : Expr}
def BC (K : Frag) (tl : TE) : TI := fun σ H R => tl σ H fun x H1 => ∃ a, x = .ref a /\ (∃ xs, SqL K H1 a xs) /\ R (Itl K a) H1
def D9 (K : Frag) (tl : TE) : TI := fun σ H R => tl σ H fun x H1 => ∃ a, x = .ref a /\ (∃ xs, SqT K H1 a xs) /\ R (Itt K a) H1
theorem fm {l : Expr} {tl : TE} (hl : PE X l tl) : PI X tg l (BC X.K tl) := by
 intro pins s σ H R I h
 refine thn (hl pins s σ H _ I h) fun v s1 ⟨x, H1, I1, r1, q1⟩ => ?_
 obtain ⟨a, e, ⟨xs, hq⟩, q⟩ := q1
 subst e
 cases r1
 obtain ⟨its, rv, p, hz⟩ := I1.list hq
 refine wpAny_pyIter_list p.isList ?_
 refine ⟨s1.heap.objs.size, [s1.heap.objs.size], _, _, H1, rfl, I1.kept (t' := s1.toks) fun b o e => Heap.get?_push_of_some _ e, um a _, ⟨_, Heap.get?_push_size _ rfl, rfl, rfl⟩, fun b hb => ?_, q⟩
 have e : b = s1.heap.objs.size := by simpa using hb
 subst e
 exact I1.fpOk (Nat.le_refl _) (I1.hok.fresh (Nat.le_refl _))
theorem z0 {l : Expr} {tl : TE} (hl : PE X l tl) : PI X tg l (D9 X.K tl) := by
 intro pins s σ H R I h
 refine thn (hl pins s σ H _ I h) fun v s1 ⟨x, H1, I1, r1, q1⟩ => ?_
 obtain ⟨a, e, ⟨xs, hq⟩, q⟩ := q1
 subst e
 cases r1
 obtain ⟨its, rv, p, hz⟩ := I1.tuple hq
 refine wpAny_pyIter_tuple (show s1.heap.IsTuple a its.toArray from p) ?_
 refine ⟨s1.heap.objs.size, [s1.heap.objs.size], _, _, H1, rfl, I1.kept (t' := s1.toks) fun b o e => Heap.get?_push_of_some _ e, si a _, ⟨_, Heap.get?_push_size _ rfl, rfl, rfl⟩, fun b hb => ?_, q⟩
 have e : b = s1.heap.objs.size := by simpa using hb
 subst e
 exact I1.fpOk (Nat.le_refl _) (I1.hok.fresh (Nat.le_refl _))
def D1 (wi : TI) (g : TG) (tb : TS) : TS := fun D σ H => wi σ H fun J H1 => ∃ W : Nat -> Nat -> St -> Hp -> Prop, (∃ m, W 0 m σ H1) /\ ∀ i m σ H, W i m σ H ->
 (J.stop i H /\ D.nx σ H) ∨ (J.go i H /\ ∃ N : St -> Hp -> Prop, (∀ σ' H', N σ' H' -> ∃ m', m' < m /\ W (i + 1) m' σ' H') /\ ∀ x H', J.yld i H x H' -> g x σ H' fun σ2 H2 => tb { D with nx := N, ct := N, bk := D.nx } σ2 H2)
def md (fp : List Addr) (h : Heap) : List (Addr × Obj) := fp.filterMap fun b => (h.get? b).map fun o => (b, o)
theorem jb {fp : List Addr} {h : Heap} {b : Addr} {o : Obj} (hb : b ∈ fp) (e : h.get? b = some o) : (b, o) ∈ md fp h := List.mem_filterMap.mpr ⟨b, hb, by rw [e]; rfl⟩
theorem ut {fp : List Addr} {h : Heap} {p : Addr × Obj} (hp : p ∈ md fp h) : p.1 ∈ fp /\ h.get? p.1 = some p.2 := by
 obtain ⟨b, hb, e⟩ := List.mem_filterMap.mp hp
 cases q : h.get? b with
 | none => rw [q] at e; cases e
 | some o =>
   rw [q] at e
   have e' : (b, o) = p := Option.some.inj e
   subst e'
   exact ⟨hb, q⟩
theorem Inv.pinned {pins : List (Addr × Obj)} {σ : St} {H : Hp} {s : Shared} {fp : List Addr} (I : Inv X pins σ H s) (hf : ∀ b ∈ fp, lq X pins H b) (ho : ∀ b ∈ fp, ∃ o, s.heap.get? b = some o /\ ∀ v, o.data ≠ .cell v) : Inv X (pins ++ md fp s.heap) σ H s :=
 I.pins_of fun p hp => (List.mem_append.mp hp).elim (fun z => I.pin p (List.mem_append_right _ z)) fun z => by
  obtain ⟨hb, e⟩ := ut z
  obtain ⟨f0, f1, f2, _⟩ := hf p.1 hb
  obtain ⟨o, e', d⟩ := ho p.1 hb
  rw [e] at e'; cases e'
  exact ⟨e, f0, f1, f2, d⟩
theorem Inv.unpinned {pins pl : List (Addr × Obj)} {σ : St} {H : Hp} {s : Shared} (I : Inv X (pins ++ pl) σ H s) : Inv X pins σ H s := I.pins_of fun p hp => I.pin p (List.mem_append_right _ (List.mem_append_left _ hp))
theorem iX {iter : Expr} {body : List Stmt} {wi : TI} {g : TG} {tb : TS} {pos : Pos} (hp : PassesOwn (model X.prog X.w) X.A X.env X.xe) (hc : X.calm = true) (hi : PI X tg iter wi) (hg : PG X tg g) (hb : PSs X body tb)
  (hs : ∀ x, foldedSetIterable iter X.env x = pure x := by intro _; rfl) : PS X (.For tg iter body [] pos) (D1 wi g tb) := by
 intro pins s σ H D I h
 refine wpAny_For (thn (hi pins s σ H _ I h) fun v s1 h1 => thn h1 fun itv s2 h2 => ?_) hs
 obtain ⟨it, fp, tn, J, H2, e, I2, T, st2, f2, W, ⟨m0, w0⟩, turn⟩ := h2
 subst e
 have stat : ∀ {H' : Hp}, (∀ b ∈ fp, H' b = none) -> ∀ b ∈ fp, lq X pins H' b := fun hn b hb => ⟨hn b hb, (f2 b hb).2⟩
 refine codeAny_forLoop_any (fun n s' => ∃ i σ' H', Inv X pins σ' H' s' /\ tn i s'.heap /\ (∀ b ∈ fp, H' b = none) /\ W i n σ' H') ?_ m0 ⟨0, σ, H2, I2, st2, fun b hb => (f2 b hb).1, w0⟩
 rintro n s3 ⟨i, σ3, H3, I3, st3, fr3, w3⟩
 rcases turn i n σ3 H3 w3 with ⟨stop, qn⟩ | ⟨go, N, hN, step⟩
 ·refine wpAny_passesOwn hp (thn (T.done X rfl rfl rfl hc i pins s3 σ3 H3 X.xe I3 (stat fr3) st3 stop) fun r s4 ⟨hr, I4⟩ => ?_)
  subst hr
  exact wpAny_execs_nil ⟨σ3, H3, I4, qn⟩
 ·refine wpAny_passesOwn hp (thn (T.item X rfl rfl rfl hc i pins s3 σ3 H3 X.xe I3 (stat fr3) st3 go) fun r s4 ⟨u, hr, h4⟩ => ?_)
  subst hr
  refine wpAny_passesOwn hp (thn h4 fun _ s5 ⟨x, H5, I5, r5, y5, st5, fr5⟩ => ?_)
  have I5' := I5.pinned (stat fr5) (T.obj _ _ st5)
  refine wpAny_passesOwn hp (thn (hg _ s5 σ3 H5 x u _ I5' r5 (step x H5 y5)) fun _ s6 ⟨σ6, H6, I6, q6⟩ => ?_)
  refine wpAny_passesOwn hp (thn (hb _ s6 σ6 H6 _ I6 q6) fun f s7 q7 => ?_)
  have again : ∀ {σ7 : St} {H7 : Hp}, Inv X (pins ++ md fp s5.heap) σ7 H7 s7 -> N σ7 H7 -> ∃ m, m < n /\ ∃ i σ' H', Inv X pins σ' H' s7 /\ tn i s7.heap /\ (∀ b ∈ fp, H' b = none) /\ W i m σ' H' := fun {σ7 H7} I7 n7 => by
   obtain ⟨m', hm, w7⟩ := hN σ7 H7 n7
   refine ⟨m', hm, i + 1, σ7, H7, I7.unpinned, T.keep _ _ _ st5 fun b hb o e => (I7.pin (b, o) (List.mem_append_right _ (List.mem_append_right _ (jb hb e)))).1, fun b hb => ?_, w7⟩
   obtain ⟨o, e, d⟩ := T.obj _ _ st5 b hb
   exact (I7.pin (b, o) (List.mem_append_right _ (List.mem_append_right _ (jb hb e)))).2.1
  cases f with
  | next => obtain ⟨σ7, H7, I7, n7⟩ := q7; exact again I7 n7
  | cont => obtain ⟨σ7, H7, I7, n7⟩ := q7; exact again I7 n7
  | brk => obtain ⟨σ7, H7, I7, q7⟩ := q7; exact ⟨σ7, H7, I7.unpinned, q7⟩
  | ret v => obtain ⟨x7, σ7, H7, I7, r7, q7⟩ := q7; exact ⟨x7, σ7, H7, I7.unpinned, r7, q7⟩
end
theorem gG {K : Frag} {a : Addr} {xs : List V} {g : TG} {tb : TS} {D : mH} {σ : St} {H : Hp} (Pv : Nat -> St -> Hp -> Prop) (h0 : Pv 0 σ H) (hl : ∀ i σ H, i <= xs.length -> Pv i σ H -> SqL K H a xs)
  (hs : ∀ i x σ H, xs[i]? = some x -> Pv i σ H -> g x σ H fun σ2 H2 => tb { D with nx := Pv (i + 1), ct := Pv (i + 1), bk := D.nx } σ2 H2) (hd : ∀ σ H, Pv xs.length σ H -> D.nx σ H) :
  ∃ W : Nat -> Nat -> St -> Hp -> Prop, (∃ m, W 0 m σ H) /\ ∀ i m σ H, W i m σ H ->
    ((Itl K a).stop i H /\ D.nx σ H) ∨ ((Itl K a).go i H /\ ∃ N : St -> Hp -> Prop, (∀ σ' H', N σ' H' -> ∃ m', m' < m /\ W (i + 1) m' σ' H') /\ ∀ x H', (Itl K a).yld i H x H' -> g x σ H' fun σ2 H2 => tb { D with nx := N, ct := N, bk := D.nx } σ2 H2) := by
 refine ⟨fun i m σ H => m = xs.length - i /\ i <= xs.length /\ Pv i σ H, ⟨xs.length, by simp, Nat.zero_le _, h0⟩, ?_⟩
 rintro i m σ H ⟨rfl, hi, p⟩
 have q := hl i σ H hi p
 by_cases hlt : i < xs.length
 ·refine .inr ⟨⟨xs, xs[i], q, by simp [hlt]⟩, Pv (i + 1), fun σ' H' p' => ⟨xs.length - (i + 1), by omega, rfl, hlt, p'⟩, fun x H' y => ?_⟩
  obtain ⟨e, y⟩ := y
  subst e
  exact hs i x σ _ (y xs q) p
 ·have e : i = xs.length := by omega
  subst e
  exact .inl ⟨⟨xs, q, Nat.le_refl _⟩, hd σ H p⟩
theorem xE {K : Frag} {a : Addr} {xs : List V} {g : TG} {tb : TS} {D : mH} {σ : St} {H : Hp} (Pv : Nat -> St -> Hp -> Prop) (h0 : Pv 0 σ H) (hl : ∀ i σ H, i <= xs.length -> Pv i σ H -> SqT K H a xs)
  (hs : ∀ i x σ H, xs[i]? = some x -> Pv i σ H -> g x σ H fun σ2 H2 => tb { D with nx := Pv (i + 1), ct := Pv (i + 1), bk := D.nx } σ2 H2) (hd : ∀ σ H, Pv xs.length σ H -> D.nx σ H) :
  ∃ W : Nat -> Nat -> St -> Hp -> Prop, (∃ m, W 0 m σ H) /\ ∀ i m σ H, W i m σ H ->
    ((Itt K a).stop i H /\ D.nx σ H) ∨ ((Itt K a).go i H /\ ∃ N : St -> Hp -> Prop, (∀ σ' H', N σ' H' -> ∃ m', m' < m /\ W (i + 1) m' σ' H') /\ ∀ x H', (Itt K a).yld i H x H' -> g x σ H' fun σ2 H2 => tb { D with nx := N, ct := N, bk := D.nx } σ2 H2) := by
 refine ⟨fun i m σ H => m = xs.length - i /\ i <= xs.length /\ Pv i σ H, ⟨xs.length, by simp, Nat.zero_le _, h0⟩, ?_⟩
 rintro i m σ H ⟨rfl, hi, p⟩
 have q := hl i σ H hi p
 by_cases hlt : i < xs.length
 ·refine .inr ⟨⟨xs, xs[i], q, by simp [hlt]⟩, Pv (i + 1), fun σ' H' p' => ⟨xs.length - (i + 1), by omega, rfl, hlt, p'⟩, fun x H' y => ?_⟩
  obtain ⟨e, y⟩ := y
  subst e
  exact hs i x σ _ (y xs q) p
 ·have e : i = xs.length := by omega
  subst e
  exact .inl ⟨⟨xs, q, Nat.le_refl _⟩, hd σ H p⟩
end L2
namespace L2
open PySem PySem.Spec PyProof.Rows
abbrev R2 := V -> V -> Hp -> VK -> Prop
def OpR (X : Cx) (f : Value -> Value -> Sem Value) (r : R2) : Prop :=
 ∀ (pins : List (Addr × Obj)) (s : Shared) (σ : St) (H : Hp) (x y : V) (v u : Value) (Q : VK), Inv X pins σ H s -> RelV x v -> RelV y u -> r x y H Q ->
   wpAny (model X.prog X.w) X.A (f v u) (EP X pins σ Q) X.xe s
def UnR (X : Cx) (f : Value -> Sem Value) (r : V -> Hp -> VK -> Prop) : Prop :=
 ∀ (pins : List (Addr × Obj)) (s : Shared) (σ : St) (H : Hp) (x : V) (v : Value) (Q : VK), Inv X pins σ H s -> RelV x v -> r x H Q ->
   wpAny (model X.prog X.w) X.A (f v) (EP X pins σ Q) X.xe s
def CallR (X : Cx) (f : Value) (r : List V -> Hp -> VK -> Prop) : Prop :=
 ∀ (pins : List (Addr × Obj)) (s : Shared) (σ : St) (H : Hp) (xs : List V) (us : List Value) (Q : VK), Inv X pins σ H s -> Vals xs us -> r xs H Q ->
   wpAny (model X.prog X.w) X.A (call f us) (EP X pins σ Q) X.xe s
def tOp (r : R2) (ta tb : TE) : TE := fun σ H Q => ta σ H fun x H1 => tb σ H1 fun y H2 => r x y H2 Q
def tUn (r : V -> Hp -> VK -> Prop) (ta : TE) : TE := fun σ H Q => ta σ H fun x H1 => r x H1 Q
def rI (C : Int -> Int -> Prop) (g : Int -> Int -> V) : R2 := fun x y H Q => ∃ i j, x = .int i /\ y = .int j /\ C i j /\ Q (g i j) H
def rI0 (g : Int -> Int -> V) : R2 := fun x y H Q => ∃ i j, x = .int i /\ y = .int j /\ Q (g i j) H
def rU (g : Int -> V) : V -> Hp -> VK -> Prop := fun x H Q => ∃ i, x = .int i /\ Q (g i) H
section
variable {X : Cx} {a b c : Expr} {ta tb tc : TE} {pos : Pos}
theorem z6 (ha : PE X a ta) (hb : PE X b tb) {pins : List (Addr × Obj)} {s : Shared} {σ : St} {H : Hp} {R : V -> V -> Hp -> Prop} (I : Inv X pins σ H s)
  (h : ta σ H fun x H1 => tb σ H1 fun y H2 => R x y H2) {Q : Value -> Shared -> Prop} {f : Value -> Value -> Sem Value}
  (hf : ∀ v u s2 x y H2, Inv X pins σ H2 s2 -> RelV x v -> RelV y u -> R x y H2 -> wpAny (model X.prog X.w) X.A (f v u) Q X.xe s2) :
  wpAny (model X.prog X.w) X.A (eval a X.env) (fun v s₁ => wpAny (model X.prog X.w) X.A (eval b X.env) (fun u s₂ => wpAny (model X.prog X.w) X.A (f v u) Q X.xe s₂) X.xe s₁) X.xe s := by
 refine thn (ha pins s σ H _ I h) fun v s1 ⟨x, H1, I1, r1, q1⟩ => ?_
 refine thn (hb pins s1 σ H1 _ I1 q1) fun u s2 ⟨y, H2, I2, r2, q2⟩ => ?_
 exact hf v u s2 x y H2 I2 r1 r2 q2
theorem cq {op : Operator} {r : R2} (ho : OpR X (binaryOp op) r) (ha : PE X a ta) (hb : PE X b tb) : PE X (.BinOp a op b pos) (tOp r ta tb) := by
 intro pins s σ H Q I h
 exact wpAny_BinOp (z6 ha hb I h fun v u s2 x y H2 I2 rx ry q => ho pins s2 σ H2 x y v u Q I2 rx ry q)
theorem xO {op : UnaryOp} {r : V -> Hp -> VK -> Prop} (ho : UnR X (unaryOp op) r) (ha : PE X a ta) : PE X (.UnaryOp op a pos) (tUn r ta) := by
 intro pins s σ H Q I h
 exact UnaryOp_ (thn (ha pins s σ H _ I h) fun v s1 ⟨x, H1, I1, r1, q1⟩ => ho pins s1 σ H1 x v Q I1 r1 q1)
theorem opI {f : Value -> Value -> Sem Value} {C : Int -> Int -> Prop} {g : Int -> Int -> Int}
  (rule : ∀ (i j : Int) (t u : Tok) (s : Shared) (Q : Value -> Shared -> Prop) (E : Value -> Shared -> Prop), C i j -> Q (.int (g i j) s.toks) { s with toks := s.toks + 1 } -> wpAny (model X.prog X.w) X.A (f (.int i t) (.int j u)) Q E s) :
  OpR X f (rI C fun i j => .int (g i j)) := by
 intro pins s σ H x y v u Q I rx ry h
 obtain ⟨i, j, rfl, rfl, hc, q⟩ := h
 obtain ⟨t, rfl⟩ := rx
 obtain ⟨t', rfl⟩ := ry
 exact rule i j t t' s _ _ hc ⟨.int (g i j), H, I.tok _, ⟨_, rfl⟩, q⟩
theorem Cf {f : Value -> Value -> Sem Value} {g : Int -> Int -> Int}
  (rule : ∀ (i j : Int) (t u : Tok) (s : Shared) (Q : Value -> Shared -> Prop) (E : Value -> Shared -> Prop), Q (.int (g i j) s.toks) { s with toks := s.toks + 1 } -> wpAny (model X.prog X.w) X.A (f (.int i t) (.int j u)) Q E s) :
  OpR X f (rI0 fun i j => .int (g i j)) := by
 intro pins s σ H x y v u Q I rx ry h
 obtain ⟨i, j, rfl, rfl, q⟩ := h
 obtain ⟨t, rfl⟩ := rx
 obtain ⟨t', rfl⟩ := ry
 exact rule i j t t' s _ _ ⟨.int (g i j), H, I.tok _, ⟨_, rfl⟩, q⟩
theorem yR {f : Value -> Value -> Sem Value} {g : Int -> Int -> Bool}
  (rule : ∀ (i j : Int) (t u : Tok) (s : Shared) (Q : Value -> Shared -> Prop) (E : Value -> Shared -> Prop), Q (.bool (g i j)) s -> wpAny (model X.prog X.w) X.A (f (.int i t) (.int j u)) Q E s) :
  OpR X f (rI0 fun i j => .bl (g i j)) := by
 intro pins s σ H x y v u Q I rx ry h
 obtain ⟨i, j, rfl, rfl, q⟩ := h
 obtain ⟨t, rfl⟩ := rx
 obtain ⟨t', rfl⟩ := ry
 exact rule i j t t' s _ _ ⟨.bl (g i j), H, I, rfl, q⟩
def CMul (i j : Int) : Prop := (-(2 ^ 64) < i /\ i < 2 ^ 64) ∨ (-(2 ^ 64) < j /\ j < 2 ^ 64)
theorem CMul.ok {i j : Int} (h : CMul i j) : IntMulOk i j := by
 rcases h with ⟨h1, h2⟩ | ⟨h1, h2⟩
 ·exact .of_left (intBits_le_64 h1 h2)
 ·exact .of_right (intBits_le_64 h1 h2)
theorem AH : OpR X (binaryOp .Add) (rI0 fun i j => .int (i + j)) := Cf fun _ _ _ _ _ _ _ q => add_int q
theorem Al : OpR X (binaryOp .Sub) (rI0 fun i j => .int (i - j)) := Cf fun _ _ _ _ _ _ _ q => sub_int q
theorem yW : OpR X (binaryOp .Mult) (rI CMul fun i j => .int (i * j)) := opI fun _ _ _ _ _ _ _ hc q => mul_int q hc.ok
theorem unI {f : Value -> Sem Value} {g : Int -> Int}
  (rule : ∀ (i : Int) (t : Tok) (s : Shared) (Q : Value -> Shared -> Prop) (E : Value -> Shared -> Prop), Q (.int (g i) s.toks) { s with toks := s.toks + 1 } -> wpAny (model X.prog X.w) X.A (f (.int i t)) Q E s) :
  UnR X f (rU fun i => .int (g i)) := by
 intro pins s σ H x v Q I rx h
 obtain ⟨i, rfl, q⟩ := h
 obtain ⟨t, rfl⟩ := rx
 exact rule i t s _ _ ⟨.int (g i), H, I.tok _, ⟨_, rfl⟩, q⟩
theorem uI : UnR X (unaryOp .USub) (rU fun i => .int (-i)) := unI fun _ _ _ _ _ q => neg_int q
end
def Bv : V -> V -> Bool
 | .non, .non => true | .non, .int _ => true | .int _, .non => true | .non, .bl _ => true | .bl _, .non => true | .non, .str _ => true | .str _, .non => true
 | .int _, .int _ => true | .bl _, .bl _ => true | .str _, .str _ => true | .byt _, .byt _ => true
 | .int _, .str _ => true | .str _, .int _ => true | .bl _, .str _ => true | .str _, .bl _ => true
 | _, _ => false
def rEq : R2 := fun x y H Q => Bv x y = true /\ Q (.bl (decide (x = y))) H
def rNe : R2 := fun x y H Q => Bv x y = true /\ Q (.bl (!decide (x = y))) H
theorem tJ {i j : Int} : decide (V.int i = V.int j) = (i == j) := by
 rw [Bool.eq_iff_iff]
 simp
theorem vi {i j : Bool} : decide (V.bl i = V.bl j) = (i == j) := by
 rw [Bool.eq_iff_iff]
 simp
theorem tR {i j : Str} : decide (V.str i = V.str j) = (i == j) := by
 rw [Bool.eq_iff_iff]
 simp
theorem tX {i j : Array UInt8} : decide (V.byt i = V.byt j) = (i.toList == j.toList) := by
 rw [Bool.eq_iff_iff]
 cases i
 cases j
 simp
section
variable {X : Cx} {a b c : Expr} {ta tb tc : TE} {pos : Pos}
theorem aV {pins : List (Addr × Obj)} {σ : St} {H : Hp} {s : Shared} {Q : VK} {k k' : Bool} (I : Inv X pins σ H s) (q : Q (.bl k) H) (e : k = k') : EP X pins σ Q (.bool k') s := by
 subst e
 exact ⟨.bl k, H, I, rfl, q⟩
theorem C4 : OpR X (compareOp .Eq) rEq := by
 intro pins s σ H x y v u Q I rx ry h
 obtain ⟨hs, q⟩ := h
 cases x with
 | non =>
   cases rx
   cases y with
   | non => cases ry; exact PySem.EqNone.eq_none_none (aV I q (by simp))
   | bl j => cases ry; exact PySem.EqNone.eq_none_bool (aV I q (by simp))
   | int j => obtain ⟨t', rfl⟩ := ry; exact PySem.EqNone.eq_none_int (aV I q (by simp))
   | str j => obtain ⟨t', rfl⟩ := ry; exact PySem.EqNone.eq_none_str (aV I q (by simp))
   | _ => exact absurd (show false = true from hs) Bool.false_ne_true
 | bl i =>
   cases rx
   cases y with
   | non => cases ry; exact PySem.EqNone.eq_bool_none (aV I q (by simp))
   | bl j => cases ry; exact eq_bool (aV I q vi)
   | str j => obtain ⟨t', rfl⟩ := ry; exact PySem.EqMixed.eq_bool_str (aV I q (by simp))
   | _ => exact absurd (show false = true from hs) Bool.false_ne_true
 | int i =>
   obtain ⟨t, rfl⟩ := rx
   cases y with
   | non => cases ry; exact PySem.EqNone.eq_int_none (aV I q (by simp))
   | int j => obtain ⟨t', rfl⟩ := ry; exact eq_int (aV I q tJ)
   | str j => obtain ⟨t', rfl⟩ := ry; exact PySem.EqMixed.eq_int_str (aV I q (by simp))
   | _ => exact absurd (show false = true from hs) Bool.false_ne_true
 | str i =>
   obtain ⟨t, rfl⟩ := rx
   cases y with
   | non => cases ry; exact PySem.EqNone.eq_str_none (aV I q (by simp))
   | bl j => cases ry; exact PySem.EqMixed.eq_str_bool (aV I q (by simp))
   | int j => obtain ⟨t', rfl⟩ := ry; exact PySem.EqMixed.eq_str_int (aV I q (by simp))
   | str j => obtain ⟨t', rfl⟩ := ry; exact eq_str (aV I q tR)
   | _ => exact absurd (show false = true from hs) Bool.false_ne_true
 | byt i =>
   obtain ⟨t, rfl⟩ := rx
   cases y with
   | byt j => obtain ⟨t', rfl⟩ := ry; exact PySem.W.eq_bytes (aV I q tX)
   | _ => exact absurd (show false = true from hs) Bool.false_ne_true
 | _ => cases y <;> exact absurd (show false = true from hs) Bool.false_ne_true
theorem Bx : OpR X (compareOp .NotEq) rNe := by
 intro pins s σ H x y v u Q I rx ry h
 obtain ⟨hs, q⟩ := h
 cases x with
 | non =>
   cases rx
   cases y with
   | non => cases ry; exact PySem.EqNone.ne_none_none (aV I q (by simp))
   | bl j => cases ry; exact PySem.EqNone.ne_none_bool (aV I q (by simp))
   | int j => obtain ⟨t', rfl⟩ := ry; exact PySem.EqNone.ne_none_int (aV I q (by simp))
   | str j => obtain ⟨t', rfl⟩ := ry; exact PySem.EqNone.ne_none_str (aV I q (by simp))
   | _ => exact absurd (show false = true from hs) Bool.false_ne_true
 | bl i =>
   cases rx
   cases y with
   | non => cases ry; exact PySem.EqNone.ne_bool_none (aV I q (by simp))
   | bl j => cases ry; exact ne_bool (aV I q (congrArg not vi))
   | str j => obtain ⟨t', rfl⟩ := ry; exact PySem.EqMixed.ne_bool_str (aV I q (by simp))
   | _ => exact absurd (show false = true from hs) Bool.false_ne_true
 | int i =>
   obtain ⟨t, rfl⟩ := rx
   cases y with
   | non => cases ry; exact PySem.EqNone.ne_int_none (aV I q (by simp))
   | int j => obtain ⟨t', rfl⟩ := ry; exact ne_int (aV I q (congrArg not tJ))
   | str j => obtain ⟨t', rfl⟩ := ry; exact PySem.EqMixed.ne_int_str (aV I q (by simp))
   | _ => exact absurd (show false = true from hs) Bool.false_ne_true
 | str i =>
   obtain ⟨t, rfl⟩ := rx
   cases y with
   | non => cases ry; exact PySem.EqNone.ne_str_none (aV I q (by simp))
   | bl j => cases ry; exact PySem.EqMixed.ne_str_bool (aV I q (by simp))
   | int j => obtain ⟨t', rfl⟩ := ry; exact PySem.EqMixed.ne_str_int (aV I q (by simp))
   | str j => obtain ⟨t', rfl⟩ := ry; exact ne_str (aV I q (congrArg not tR))
   | _ => exact absurd (show false = true from hs) Bool.false_ne_true
 | byt i =>
   obtain ⟨t, rfl⟩ := rx
   cases y with
   | byt j => obtain ⟨t', rfl⟩ := ry; exact PySem.W.ne_bytes (aV I q (congrArg not tX))
   | _ => exact absurd (show false = true from hs) Bool.false_ne_true
 | _ => cases y <;> exact absurd (show false = true from hs) Bool.false_ne_true
theorem C1 : OpR X (compareOp .Lt) (rI0 fun i j => .bl (decide (i < j))) := yR fun _ _ _ _ _ _ _ q => lt_int q
theorem Cp : OpR X (compareOp .LtE) (rI0 fun i j => .bl (decide (i <= j))) := yR fun _ _ _ _ _ _ _ q => le_int q
theorem BR : OpR X (compareOp .Gt) (rI0 fun i j => .bl (decide (j < i))) := yR fun _ _ _ _ _ _ _ q => gt_int q
theorem yM : OpR X (compareOp .Is) (fun x y H Q => y = .non /\ Q (.bl (decide (x = .non))) H) := by
 intro pins s σ H x y v u Q I rx ry h
 obtain ⟨rfl, q⟩ := h
 cases ry
 refine is_none_gen (aV I q ?_)
 cases x <;> first
  | (cases rx; rfl)
  | (obtain ⟨t, rfl⟩ := rx; rfl)
theorem cP {op : CmpOp} {r : R2} (ho : OpR X (compareOp op) r) (ha : PE X a ta) (hb : PE X b tb) (hm : behindInMarks op b = false) : PE X (.Compare a [op] [b] pos) (tOp r ta tb) := by
 intro pins s σ H Q I h
 exact wpAny_Compare1 (z6 ha hb I h fun v u s2 x y H2 I2 rx ry q => ho pins s2 σ H2 x y v u Q I2 rx ry q) hm
theorem pJ : (sizeLine : Nat) < 2 ^ 63 := by rw [sizeLine_eq]; decide
theorem tf {x : V} {us : List Value} (r : Vals [x] us) : ∃ u, us = [u] /\ RelV x u := by
 cases r with
 | cons r1 r2 => cases r2; exact ⟨_, rfl, r1⟩
theorem vG : CallR X (.builtin "ord") (fun xs H Q => ∃ x, xs = [.str x] /\ x.length = 1 /\ Q (.int (x.cps.getD 0 0 : Nat)) H) := by
 intro pins s σ H xs us Q I r h
 obtain ⟨x, rfl, hz, q⟩ := h
 obtain ⟨u, rfl, t, rfl⟩ := tf r
 exact ord_of_one hz ⟨.int _, H, I.tok _, ⟨_, rfl⟩, q⟩
end
end L2
namespace L2
open PySem PySem.Spec PyProof.Rows
structure ObjM (h : Heap) (x dx C : Addr) (mA : Str -> Option Value) : Prop where
 obj : h.get? x = some (PySem.W.instObj C dx)
 ns : h.Ns1 dx mA
 ne : dx ≠ x
theorem kl {h : Heap} {dx : Addr} {mA : Str -> Option Value} (n : h.Ns1 dx mA) : ∃ od, h.get? dx = some od /\ ∀ name, PySem.W.lookIn name od = some (mA name) := by
 obtain ⟨o, es, ep, ho, hd, hk, _, hm⟩ := n
 refine ⟨o, ho, fun name => ?_⟩
 have e := hm name
 unfold nsFind findBy at e
 rw [<- Array.find?_toList] at e
 unfold PySem.W.lookIn
 rw [hd]
 dsimp only
 split
 ·rename_i y q
  rw [q] at e
  exact congrArg some e
 ·rename_i q
  rw [q] at e
  have a : es.toList.any (·.refKey) = false := by
   rw [List.any_eq_false]
   intro y hy
   obtain ⟨z, t, hkey⟩ := hk y (Array.mem_toList_iff.mp hy)
   simp [DictEntry.refKey, hkey]
  have a' : ¬ es.toList.any (·.refKey) = true := by rw [a]; exact Bool.false_ne_true
  rw [if_neg a']
  exact congrArg some e
theorem ObjM.look {h : Heap} {x dx C : Addr} {mA : Str -> Option Value} (I : ObjM h x dx C mA) : ∃ od, PySem.W.InstAt h x (PySem.W.instObj C dx) C (some od) /\ ∀ name, PySem.W.lookIn name od = some (mA name) :=
 let ⟨od, ho, hl⟩ := kl I.ns
 ⟨od, ⟨I.obj, rfl, rfl, ho⟩, hl⟩
section
variable {prog : Program} {w : World} {A : Around} {E : Value -> Shared -> Prop} {s : Shared} {K : Frag} {x dx C f : Addr} {mA : Str -> Option Value} {name : Str} {v : Value}
theorem xm {expr : Bool} {Q : Value -> Shared -> Prop} (X : K.In s.heap) (I : ObjM s.heap x dx C mA) (hg : PySem.W.plainGet K C name = true) (hh : PySem.W.hasDictIn K C = true)
  (ha : findIn K (.ref C) name = some none) (hv : mA name = some v) (hv' : PySem.W.handedIn v = true) (h : Q v { s with toks := s.toks + 1 }) :
  wpAny (model prog w) A (getAttr (.ref x) name expr) Q E s := by
 obtain ⟨od, J, hl⟩ := I.look
 exact PySem.W.get_value X J (PySem.W.plainGet_of hg).1 (PySem.W.findObj_own hh ha rfl (by rw [hl, hv])) hv' h
theorem vj {pl : Sem Bool} {Q : Value × List Value -> Shared -> Prop} (X : K.In s.heap) (I : ObjM s.heap x dx C mA) (hg : PySem.W.plainGet K C name = true)
  (hf : findIn K (.ref C) name = some (some (.ref f))) (ht : isFn K (.ref f) = true) (hv : mA name = none) (h : Q (.ref f, [.ref x]) s) :
  wpAny (model prog w) A (getMethod (.ref x) name pl) Q E s := by
 obtain ⟨od, J, hl⟩ := I.look
 exact PySem.W.method_fn X J (PySem.W.plainGet_of hg).1 (PySem.W.plainGet_of hg).2 hf (beq_iff_eq.mp ht) (by show (PySem.W.lookIn name od).map (·.isSome) = some false; rw [hl, hv]; rfl) h
theorem wW {ns : List Str} {Q : Unit -> Shared -> Prop} (X : K.In s.heap) (I : ObjM s.heap x dx C mA)
  (hs : findIn K (.ref C) "__setattr__" = some (some (.builtin "object.__setattr__"))) (hp : PySem.W.plainOver K C = true) (ht : PySem.W.takerIn K C name = some none) (hh : PySem.W.hasDictIn K C = true)
  (hw : PySem.Within mA ns) (hsz : ns.length <= sizeLine)
  (h : ∀ h', ObjM h' x dx C (fun y => if y = name then some v else mA y) -> Heap.SameBut dx s.heap h' -> Q () { s with heap := h', toks := s.toks + 2 }) :
  wpAny (model prog w) A (setAttr (.ref x) name v) Q E s := by
 obtain ⟨od, J, hl⟩ := I.look
 refine PySem.W.set_plain X J hs (PySem.W.osa_open (s := { s with toks := s.toks + 1 }) (r := none) X J hp ht fun b => ?_)
 obtain ⟨cd, hc, hd'⟩ := PySem.W.any_some hh
 have hx : s.heap.get? x = some ⟨.ref C, some dx, .plain, #[]⟩ := I.obj
 refine wpAny_bind (wpAny_pure (wpAny_bind (wpAny_bind (wpAny_loadPart hx (wpAny_bind (PySem.W.Looks.here (s := { s with toks := s.toks + 1 }) (PySem.W.looks_clsIn X hc) ?_))))))
 rw [hd']
 refine wpAny_pure (a := some dx) (wpAny_bind (wpAny_pure (wpAny_bind ?_)))
 refine wpAny_nsSet1 (s := { s with toks := s.toks + 1 }) I.ns fun h' hn2 hs2 => ?_
 obtain ⟨oD, esD, epD, hoD, hdD, hcD⟩ := hn2.count (PySem.Within.cons name v hw)
 refine wpAny_bind (wpAny_lookBehind hoD (by rw [hdD]; exact pastItsLine_dict (Nat.le_trans hcD (by rw [List.length_cons]; omega))) ?_)
 exact wpAny_pure (h _ ⟨(hs2.2 _ (Ne.symm I.ne)).trans I.obj, hn2, I.ne⟩ hs2)
theorem vX {R : Result -> Shared -> Prop} {vs : List Value} {kw : List (Str × Value)} (X : K.In s.heap) (hm : makesIn K C = true)
  (hi : findIn K (.ref C) "__init__" = some (some (.ref f))) (hf : PySem.W.typeIn K (.ref f) = some (.type "function"))
  (h : codeAny (model prog w) (A.under (.builtin "type.__call__" ⟨.ref C :: vs, kw⟩)) (.call (.ref f) ⟨.ref (s.heap.objs.size + 1) :: vs, kw⟩) (PySem.W.InitBack (s.heap.objs.size + 1) R)
   { s with heap := (s.heap.push PySem.W.emptyDict).push (PySem.W.instObj C s.heap.objs.size) }) :
  codeAny (model prog w) A (.call (.ref C) ⟨vs, kw⟩) R s := by
 obtain ⟨hh, g, d, t, os⟩ := s
 exact PySem.W.make_core (PySem.W.makes_of X hm) (PySem.W.looks_findIn X hi) (fun self => PySem.W.bind_fn X self hf) (.inl rfl) h
end
def fw (f : Str) (v : V) : List (Str × V) -> List (Str × V)
 | [] => [(f, v)]
 | (g, x) :: r => if g = f then (g, v) :: r else (g, x) :: fw f v r
theorem ig (f g : Str) (v : V) : ∀ fs : List (Str × V), (fw f v fs).lookup g = if g = f then some v else fs.lookup g
 | [] => by
   show List.lookup g [(f, v)] = _
   by_cases h : g = f
   ·have hb : (g == f) = true := beq_iff_eq.mpr h
    simp only [List.lookup, hb, if_pos h]
   ·have hb : (g == f) = false := beq_eq_false_iff_ne.mpr h
    simp only [List.lookup, hb, if_neg h]
 | (k, x) :: r => by
   have ih := ig f g v r
   rw [show fw f v ((k, x) :: r) = (if k = f then (k, v) :: r else (k, x) :: fw f v r) from rfl]
   by_cases hk : k = f
   ·rw [if_pos hk]
    by_cases h : g = k
    ·have hb : (g == k) = true := beq_iff_eq.mpr h
     simp only [List.lookup, hb, if_pos (h.trans hk)]
    ·have hb : (g == k) = false := beq_eq_false_iff_ne.mpr h
     simp only [List.lookup, hb, if_neg (fun e : g = f => h (e.trans hk.symm))]
   ·rw [if_neg hk]
    by_cases h : g = k
    ·have hb : (g == k) = true := beq_iff_eq.mpr h
     simp only [List.lookup, hb, if_neg (fun e : g = f => hk (h.symm.trans e))]
    ·have hb : (g == k) = false := beq_eq_false_iff_ne.mpr h
     simp only [List.lookup, hb]
     exact ih
theorem f8 (f : Str) (v : V) : ∀ fs : List (Str × V), f ∈ (fw f v fs).map (·.1) /\ ∀ g, g ∈ fs.map (·.1) -> g ∈ (fw f v fs).map (·.1)
 | [] => ⟨by simp [fw], fun g h => by simp at h⟩
 | (k, x) :: r => by
   obtain ⟨i1, i2⟩ := f8 f v r
   rw [show fw f v ((k, x) :: r) = (if k = f then (k, v) :: r else (k, x) :: fw f v r) from rfl]
   by_cases hk : k = f
   ·rw [if_pos hk]
    subst hk
    exact ⟨by simp, fun g h => by simpa using h⟩
   ·rw [if_neg hk]
    refine ⟨?_, fun g h => ?_⟩
    ·rw [List.map_cons]
     exact List.mem_cons_of_mem _ i1
    ·rw [List.map_cons] at h ⊢
     rcases List.mem_cons.mp h with e | e
     ·exact List.mem_cons.mpr (.inl e)
     ·exact List.mem_cons_of_mem _ (i2 g e)
theorem l6 (f : Str) (v : V) : ∀ fs : List (Str × V), (fw f v fs).length <= fs.length + 1
 | [] => by simp [fw]
 | (k, x) :: r => by
   have ih := l6 f v r
   rw [show fw f v ((k, x) :: r) = (if k = f then (k, v) :: r else (k, x) :: fw f v r) from rfl]
   by_cases hk : k = f
   ·rw [if_pos hk, List.length_cons, List.length_cons]; omega
   ·rw [if_neg hk, List.length_cons, List.length_cons]; omega
theorem RelO.some_of {v : V} {o : Option Value} (r : RelO (some v) o) : ∃ u, o = some u /\ RelV v u := by
 cases o with
 | none => exact (show False from r).elim
 | some u => exact ⟨u, rfl, r⟩
theorem RelO.none_of {o : Option Value} (r : RelO none o) : o = none := by
 cases o with
 | none => rfl
 | some u => exact (show False from r).elim
theorem oG {v : V} {u : Value} (r : RelV v u) : PySem.W.handedIn u = true := by
 cases v with
 | non => cases (show u = Value.none from r); rfl
 | bl b => cases (show u = Value.bool b from r); rfl
 | int i => obtain ⟨t, e⟩ := (show ∃ t, u = Value.int i t from r); cases e; rfl
 | str x => obtain ⟨t, e⟩ := (show ∃ t, u = Value.str x t from r); cases e; rfl
 | byt b => obtain ⟨t, e⟩ := (show ∃ t, u = Value.bytes b t from r); cases e; rfl
 | flt b => obtain ⟨t, e⟩ := (show ∃ t, u = Value.float b t from r); cases e; rfl
 | ref a => cases (show u = Value.ref a from r); rfl
 | ty n => cases (show u = Value.type n from r); rfl
section
variable {P : Program} {w : World} {H H' : Hp} {h h' : Heap} {a C dx : Addr} {fs fs' : List (Str × V)}
theorem qh (hok : HOk P w H h) (e : H a = some (.ins C dx fs)) : ∃ mA, ObjM h a dx C mA /\ (∀ f, RelO (fs.lookup f) (mA f)) /\ PySem.Within mA (fs.map (·.1)) /\ fs.length <= 1000 /\ H dx = some (.own a) := by
 obtain ⟨d, z, ne, ob, mA, n, r, q⟩ := (show ObjOk P w H h a (.ins C dx fs) from hok a _ e)
 exact ⟨mA, ⟨ob, n, ne⟩, r, q, z, d⟩
end
structure Cls (K : Frag) (C : Addr) : Prop where
 pg : PySem.W.plainGet K C Str.empty = true
 hd : PySem.W.hasDictIn K C = true
 po : PySem.W.plainOver K C = true
 sa : findIn K (.ref C) "__setattr__" = some (some (.builtin "object.__setattr__"))
theorem Cls.get {K : Frag} {C : Addr} (c : Cls K C) (f : Str) : PySem.W.plainGet K C f = true := c.pg
def NoAttr (K : Frag) (C : Addr) (f : Str) : Prop := findIn K (.ref C) f = some none
theorem NoAttr.taker {K : Frag} {C : Addr} {f : Str} (n : NoAttr K C f) : PySem.W.takerIn K C f = some none := by
 unfold PySem.W.takerIn
 rw [show findIn K (.ref C) f = some none from n]
 rfl
structure AJ (K : Frag) (C : Addr) (m : Str) (f : Addr) : Prop where
 at_ : findIn K (.ref C) m = some (some (.ref f))
 fn : isFn K (.ref f) = true
 kp : keepIn K (.ref f) = true
section
variable {X : Cx} {pins : List (Addr × Obj)} {σ : St} {H : Hp} {s : Shared} {a C dx : Addr} {fs : List (Str × V)} {f : Str} {v : V} {A : Around} {E : Value -> Shared -> Prop}
theorem lW {b : Bool} {Q : Value -> Shared -> Prop} (I : Inv X pins σ H s) (e : H a = some (.ins C dx fs)) (c : Cls X.K C) (n : NoAttr X.K C f) (l : fs.lookup f = some v)
  (h : ∀ u s', Inv X pins σ H s' -> RelV v u -> Q u s') : wpAny (model X.prog X.w) A (getAttr (.ref a) f b) Q E s := by
 obtain ⟨mA, O, r, _, _, _⟩ := qh I.hok e
 obtain ⟨u, hu, ru⟩ := RelO.some_of (v := v) (o := mA f) (by rw [<- l]; exact r f)
 exact xm I.kIn O (c.get f) c.hd n hu (oG ru) (h u _ (I.tok _) ru)
theorem mP {m : Str} {g : Addr} {pl : Sem Bool} {Q : Value × List Value -> Shared -> Prop} (I : Inv X pins σ H s) (e : H a = some (.ins C dx fs)) (c : Cls X.K C) (k : AJ X.K C m g) (l : fs.lookup m = none)
  (h : Q (.ref g, [.ref a]) s) : wpAny (model X.prog X.w) A (getMethod (.ref a) m pl) Q E s := by
 obtain ⟨mA, O, r, _, _, _⟩ := qh I.hok e
 have hn : mA m = none := RelO.none_of (by rw [<- l]; exact r m)
 exact vj I.kIn O (c.get m) k.at_ k.fn hn h
theorem mt {y : V} {u : Value} {Q : Unit -> Shared -> Prop} (I : Inv X pins σ H s) (e : H a = some (.ins C dx fs)) (c : Cls X.K C) (n : NoAttr X.K C f) (hl : fs.length < 1000) (ry : RelV y u)
  (h : ∀ s', Inv X pins σ (upd H a (.ins C dx (fw f y fs))) s' -> Q () s') : wpAny (model X.prog X.w) A (setAttr (.ref a) f u) Q E s := by
 obtain ⟨mA, O, r, wi, _, ho⟩ := qh I.hok e
 have hz : (fs.map (·.1)).length <= sizeLine := by rw [List.length_map, sizeLine_eq]; omega
 refine wW I.kIn O c.sa c.po n.taker c.hd wi hz fun h' O' sb => h _ ?_
 have hd : ∃ o, h'.get? dx = some o := let ⟨o, _, _, e', _⟩ := O'.ns; ⟨o, e'⟩
 refine I.write (x := a) (e := dx) (by rw [e]; exact True.intro) (.inr ho) (fun b q hb z => (sb.2 b hb).trans z) hd ?_
 refine ⟨by rw [al O.ne]; exact ho, ?_, O.ne, O'.obj, _, O'.ns, fun g => ?_, fun g hg => ?_⟩
 ·have := l6 f y fs; omega
 ·show RelO ((fw f y fs).lookup g) (if g = f then some u else mA g)
  rw [ig]
  by_cases q : g = f
  ·rw [if_pos q, if_pos q]; exact ry
  ·rw [if_neg q, if_neg q]; exact r g
 ·by_cases q : g = f
  ·rw [q]; exact (f8 f y fs).1
  ·refine (f8 f y fs).2 g (wi g fun z => hg ?_)
   show (if g = f then some u else mA g) = none
   rw [if_neg q]; exact z
theorem Inv.made (I : Inv X pins σ H s) : Inv X pins σ (upd (upd H s.heap.objs.size (.own (s.heap.objs.size + 1))) (s.heap.objs.size + 1) (.ins C s.heap.objs.size []))
  { s with heap := (s.heap.push PySem.W.emptyDict).push (PySem.W.instObj C s.heap.objs.size) } := by
 have e1 : (s.heap.push PySem.W.emptyDict).get? s.heap.objs.size = some PySem.W.emptyDict := Heap.get?_push_size s.heap rfl
 have e2 : ((s.heap.push PySem.W.emptyDict).push (PySem.W.instObj C s.heap.objs.size)).get? (s.heap.objs.size + 1) = some (PySem.W.instObj C s.heap.objs.size) := by
  have := Heap.get?_push_size (s.heap.push PySem.W.emptyDict) (o := PySem.W.instObj C s.heap.objs.size) rfl
  rwa [Heap.size_push] at this
 have e3 : (s.heap.push PySem.W.emptyDict).Ns s.heap.objs.size (fun _ => none) := ⟨PySem.W.emptyDict, #[], _, e1, rfl, (fun e he => absurd he (by simp)), fun _ => rfl⟩
 have I1 := I.laid (a := s.heap.objs.size) (o := .own (s.heap.objs.size + 1)) (h' := s.heap.push PySem.W.emptyDict) (t' := s.toks) (fun b u q => Heap.get?_push_of_some _ q) (Nat.le_refl _) ⟨_, e1⟩
 refine I1.laid (a := s.heap.objs.size + 1) (o := .ins C s.heap.objs.size []) (t' := s.toks) (fun b u q => Heap.get?_push_of_some _ q) (Nat.le_of_eq (Heap.size_push _ _)) ?_
 have ne : s.heap.objs.size ≠ s.heap.objs.size + 1 := Nat.ne_of_lt (Nat.lt_succ_self _)
 refine ⟨by rw [al ne, af], Nat.zero_le _, ne, e2, fun _ => none, (Heap.Ns1.of_empty e3).at fun o q => Heap.get?_push_of_some _ q, fun _ => True.intro, fun y hy => absurd rfl hy⟩
theorem tq {prog : Program} {w : World} {env : Env} {e : Expr} {f : Str} {pos : Pos} {s : Shared} {Q : Value -> Shared -> Prop} (hb : attributeBase e f env (eval e env) = eval e env)
  (h : wpAny (model prog w) A (eval e env) (fun o s₁ => wpAny (model prog w) A (getAttr o f true) Q E s₁) E s) : wpAny (model prog w) A (eval (.Attribute e f pos) env) Q E s :=
 Attribute_any_ h (by rw [arm_eval_Attribute, hb])
end
def xj (X : Cx) (op : Operator) (rd : V -> V -> Hp -> VK -> Prop) : Prop :=
 ∀ (pins : List (Addr × Obj)) (s : Shared) (σ : St) (H : Hp) (x y : V) (u v : Value) (Q : VK), Inv X pins σ H s -> RelV x u -> RelV y v -> rd x y H Q -> wpAny (model X.prog X.w) X.A (inplaceOp op u v) (EP X pins σ Q) X.xe s
section
variable {X : Cx} {o e value : Expr} {f : Str} {pos pos' tpos : Pos} {ta tv : TE}
def CY : V -> V -> Hp -> VK -> Prop := fun x y H Q => ∃ i j, x = .int i /\ y = .int j /\ Q (.int (i + j)) H
def CW : V -> V -> Hp -> VK -> Prop := fun x y H Q => ∃ i j, x = .int i /\ y = .int j /\ Q (.int (i - j)) H
theorem jt : xj X .Add CY := by
 rintro pins s σ H x y u v Q I rx ry ⟨i, j, rfl, rfl, q⟩
 obtain ⟨t, rfl⟩ := (show ∃ t, u = Value.int i t from rx)
 obtain ⟨t', rfl⟩ := (show ∃ t', v = Value.int j t' from ry)
 exact PyProof.Rows.iadd_int ⟨.int (i + j), H, I.tok _, ⟨_, rfl⟩, q⟩
theorem yE : xj X .Sub CW := by
 rintro pins s σ H x y u v Q I rx ry ⟨i, j, rfl, rfl, q⟩
 obtain ⟨t, rfl⟩ := (show ∃ t, u = Value.int i t from rx)
 obtain ⟨t', rfl⟩ := (show ∃ t', v = Value.int j t' from ry)
 exact PyProof.Rows.isub_int ⟨.int (i - j), H, I.tok _, ⟨_, rfl⟩, q⟩
end
section
variable {X : Cx} {pins : List (Addr × Obj)} {σ : St} {H : Hp} {s : Shared} {A : Around} {E : Value -> Shared -> Prop} {Q : Value -> Shared -> Prop} {c : Value} {b : Bool}
end
end L2
namespace L2
open PySem PySem.Spec PyProof.Rows
structure Room (k : Nat) (A : Around) : Prop where
 hd : A.handled = none
 dp : A.depth + 3 * k + 5 < recursionLimit
 un : A.units + 16 * k + 200 < cLine
theorem Room.mono {j k : Nat} {A : Around} (r : Room k A) (h : j <= k) : Room j A := ⟨r.hd, by have := r.dp; omega, by have := r.un; omega⟩
theorem Room.deeper {k : Nat} {A : Around} (r : Room (k + 1) A) (env : Env) : Room k (A.deeper env) :=
 ⟨r.hd, by have := r.dp; show A.depth + 1 + 3 * k + 5 < _; omega, by have := r.un; show A.units + 3 + 16 * k + 200 < _; omega⟩
theorem rZ {A : Around} {C : Addr} {us : List Value} {kw : List (Str × Value)} : (A.under (.builtin "type.__call__" ⟨.ref C :: us, kw⟩)).depth = A.depth + 1 := by
 first | rfl | simp [Around.under, Code.weight, Code.isCreation, Code.isGuard, Code.isCaller, Code.frames, Code.isFrame, guardIds]
theorem so {A : Around} {C : Addr} {us : List Value} {kw : List (Str × Value)} : (A.under (.builtin "type.__call__" ⟨.ref C :: us, kw⟩)).units = A.units + 1 := by
 first | rfl | simp [Around.under, Code.cUnits, Code.frames, Code.isFrame]
theorem Room.make {k : Nat} {A : Around} (r : Room (k + 1) A) (C : Addr) (us : List Value) (kw : List (Str × Value)) : Room k (A.under (.builtin "type.__call__" ⟨.ref C :: us, kw⟩)) :=
 ⟨r.hd, by have := r.dp; rw [rZ]; omega, by have := r.un; rw [so]; omega⟩
theorem Room.depth {k : Nat} {A : Around} (r : Room k A) : A.depth < recursionLimit := by have := r.dp; omega
theorem Room.units {k : Nat} {A : Around} (r : Room k A) : A.units + 64 < cLine := by have := r.un; omega
def nD : TA := fun _ H Q => Q [] H
def li (ta : TE) (tr : TA) : TA := fun σ H Q => ta σ H fun x H1 => tr σ H1 fun xs H2 => Q (x :: xs) H2
section
variable {X : Cx} {e : Expr} {es : List Expr} {te : TE} {t : TA} {pos : Pos}
theorem aa : PA X [] nD := fun _ _ _ _ H Q I h => Calls.spliced_nil ⟨[], H, I, .nil, h⟩
theorem a8 (ha : PE X e te) (hr : PA X es t) (hs : starEach (e :: es) X.env = (false, eval e X.env) :: starEach es X.env := by rfl) : PA X (e :: es) (li te t) := by
 intro pos pins s σ H Q I h
 rw [hs]
 show wpAny _ _ (spliced ((false, eval e X.env) :: backTo pos (starEach es X.env))) _ _ s
 refine Calls.spliced_cons (thn (ha pins s σ H _ I h) fun u s1 ⟨x, H1, I1, r1, q1⟩ => ?_)
 exact thn (hr pos pins s1 σ H1 _ I1 q1) fun us s2 ⟨xs, H2, I2, r2, q2⟩ => ⟨x :: xs, H2, I2, .cons r1 r2, q2⟩
def C8 (t : TA) : TE := fun σ H Q => t σ H fun xs H1 => xs.length <= sizeLine /\ ∀ p, H1 p = none -> Q (.ref p) (upd H1 p (.tup xs))
def wQ (t : TA) : TE := fun σ H Q => t σ H fun xs H1 => xs.length <= sizeLine /\ ∀ p, H1 p = none -> Q (.ref p) (upd H1 p (.lst xs))
theorem fM {x1} (h : PA X es t) : PE X (.Tuple es x1 pos) (C8 t) := by
 intro pins s σ H Q I hq
 refine wpAny_Tuple_spliced (thn (h pos pins s σ H _ I hq) fun us s1 ⟨xs, H1, I1, r, z, q⟩ => ⟨by rw [<- r.length]; exact z, ?_⟩)
 have hf : H1 s1.heap.objs.size = none := I1.hok.fresh (Nat.le_refl _)
 refine ⟨.ref s1.heap.objs.size, upd H1 s1.heap.objs.size (.tup xs), I1.laid (t' := s1.toks) (fun b u e => Heap.get?_push_of_some _ e) (Nat.le_refl _) ?_, rfl, q _ hf⟩
 exact ⟨z, us, r, ⟨_, Heap.get?_push_size _ rfl, rfl, _, rfl⟩⟩
theorem aJ (h : PA X es t) : PE X (.List es pos) (wQ t) := by
 intro pins s σ H Q I hq
 refine wpAny_List_spliced (thn (h pos pins s σ H _ I hq) fun us s1 ⟨xs, H1, I1, r, z, q⟩ => ⟨by rw [<- r.length]; exact z, ?_⟩)
 have hf : H1 s1.heap.objs.size = none := I1.hok.fresh (Nat.le_refl _)
 refine ⟨.ref s1.heap.objs.size, upd H1 s1.heap.objs.size (.lst xs), I1.laid (t' := s1.toks) (fun b u e => Heap.get?_push_of_some _ e) (Nat.le_refl _) ?_, rfl, q _ hf⟩
 exact ⟨z, us, 0, r, Heap.get?_push_size _ rfl⟩
end
abbrev Sp := List V -> Hp -> VK -> XK -> Prop
abbrev CXT := List Env -> Hp -> Shared -> XK -> Value -> Shared -> Prop
structure Env0 (P : Program) (w : World) (K : Frag) (mg : Str -> Option Value) (base : Heap) (A : Around) (outer : List Env) (s : Shared) (H : Hp) : Prop where
 frames : A.frames = some outer
 mod : Mod K mg base
 bs : ∀ b o, base.get? b = some o -> s.heap.get? b = some o /\ H b = none
 bsz : base.objs.size <= s.heap.objs.size
 funs : s.heap.FunFrames base outer
 frf : ∀ b ∈ frs outer, H b = none
 hok : HOk P w H s.heap
 bare : AllBare s.gens
def CE (outer : List Env) (P : Program) (w : World) (H : Hp) (s : Shared) (Q : VK) (u : Value) (s' : Shared) : Prop :=
 ∃ v H', s'.os = s.os /\ AllBare s'.gens /\ Un (frs outer) [] H H' s.heap s'.heap /\ HOk P w H' s'.heap /\ RelV v u /\ Q v H'
def CR (CX : CXT) (outer : List Env) (P : Program) (w : World) (H : Hp) (s : Shared) (Q : VK) (E : XK) (r : Result) (s' : Shared) : Prop :=
 match r with
 | .ok (.ret u) => CE outer P w H s Q u s'
 | .ok _ => False
 | .error e => CX outer H s E e s'
structure FnOk (P : Program) (w : World) (K : Frag) (mg : Str -> Option Value) (base : Heap) (CX : CXT) (k : Nat) (f : Addr) (fd : FuncData) (ps : List Str) (sp : Sp) : Prop where
 len : ∀ vs H Q E, sp vs H Q E -> vs.length = ps.length
 run : ∀ (A : Around) (outer : List Env) (s : Shared) (H : Hp) (args : Args) (us : List Value) (vs : List V) (Q : VK) (E : XK), Room k A -> Env0 P w K mg base A outer s H -> BindsTo s fd args (ps.zip us) -> Vals vs us -> sp vs H Q E ->
  codeAny (model P w) A (.call (.ref f) args) (CR CX outer P w H s Q E) s
theorem FnOk.mono {P : Program} {w : World} {K : Frag} {mg : Str -> Option Value} {base : Heap} {CX : CXT} {j k : Nat} {f : Addr} {fd : FuncData} {ps : List Str} {sp : Sp} (F : FnOk P w K mg base CX j f fd ps sp) (h : j <= k) :
  FnOk P w K mg base CX k f fd ps sp := ⟨F.len, fun A outer s H args us vs Q E hr => F.run A outer s H args us vs Q E (hr.mono h)⟩
theorem Env0.make {P : Program} {w : World} {K : Frag} {mg : Str -> Option Value} {base : Heap} {A : Around} {outer : List Env} {s : Shared} {H : Hp} (e : Env0 P w K mg base A outer s H) (C : Addr) (us : List Value) (kw : List (Str × Value)) :
  Env0 P w K mg base (A.under (.builtin "type.__call__" ⟨.ref C :: us, kw⟩)) outer s H := ⟨by first | exact e.frames | (simpa [Around.under, Code.envs, Code.isFrame, pushEnvs] using e.frames), e.mod, e.bs, e.bsz, e.funs, e.frf, e.hok, e.bare⟩
section
variable {X : Cx} {pins : List (Addr × Obj)} {σ : St} {H : Hp} {s s' : Shared}
theorem Inv.env0 (I : Inv X pins σ H s) : Env0 X.prog X.w X.K X.mg X.base X.A X.stack s H :=
 ⟨I.ok.frames, I.ok.mod, I.bs, Nat.le_trans I.ok.bsz I.sz, I.stack, I.stkFree, I.hok, I.bare⟩
theorem Inv.after {Q : VK} {u : Value} (I : Inv X pins σ H s) (h : CE X.stack X.prog X.w H s Q u s') : EP X pins σ Q u s' := by
 obtain ⟨v, H', os, bare, un, hok, r, q⟩ := h
 obtain ⟨hh, g, d, t, os'⟩ := s'
 obtain rfl : os' = s.os := os
 exact ⟨v, H', I.call (h' := hh) (g' := g) (d' := d) (t' := t) (ch := []) un hok bare (fun b z => absurd z (by simp)), r, q⟩
end
def tT (sp : Sp) (dvs : List V) (E : XK) (t : TA) : TE := fun σ H Q => t σ H fun vs H1 => sp (vs ++ dvs) H1 Q E
def Binds (K : Frag) (fd : FuncData) (ps : List Str) (ds : List Value) : Prop :=
 ∀ (s : Shared) (us : List Value), K.In s.heap -> (us ++ ds).length = ps.length -> BindsTo s fd ⟨us, []⟩ (ps.zip (us ++ ds))
theorem Binds.all {K : Frag} {fd : FuncData} {ps : List Str} (h : ∀ us : List Value, us.length = ps.length -> bindArgs fd ⟨us, []⟩ = pure (ps.zip us)) : Binds K fd ps [] := fun s us _ hl => by
 rw [List.append_nil] at hl ⊢
 exact .of_eq (h us hl)
def d8 (CX : CXT) (X : Cx) (E : XK) : Prop := ∀ (pins : List (Addr × Obj)) (σ : St) (H : Hp) (s : Shared) (e : Value) (s' : Shared), Inv X pins σ H s -> CX X.stack H s E e s' -> X.xe e s'
section
variable {X : Cx} {CX : CXT} {k : Nat} {f C : Addr} {fd : FuncData} {ps : List Str} {sp : Sp} {dvs : List V} {ds : List Value} {E : XK} {x m : Str} {p pos apos : Pos} {e o : Expr} {es : List Expr} {ta : TE} {t : TA}
theorem m9 {pins : List (Addr × Obj)} {σ : St} {H : Hp} {s : Shared} {Q : VK} {us : List Value} {vs : List V} (F : FnOk X.prog X.w X.K X.mg X.base CX k f fd ps sp) (hr : Room k X.A) (hb : Binds X.K fd ps ds) (hd : Vals dvs ds) (hx : d8 CX X E)
  (I : Inv X pins σ H s) (r : Vals vs us) (h : sp (vs ++ dvs) H Q E) : wpAny (model X.prog X.w) X.A (call (.ref f) us) (EP X pins σ Q) X.xe s := by
 have r2 : Vals (vs ++ dvs) (us ++ ds) := r.append hd
 have hl : (us ++ ds).length = ps.length := by rw [<- r2.length]; exact F.len _ _ _ _ h
 refine wpAny_call (codeAny_mono (F.run X.A X.stack s H ⟨us, []⟩ (us ++ ds) (vs ++ dvs) Q E hr I.env0 (hb s us I.kIn hl) r2 h) fun r s' hq => ?_)
 cases r with
 | error e => exact hx pins σ H s e s' I hq
 | ok fl =>
   cases fl with
   | ret u => exact I.after hq
   | next => exact False.elim hq
   | brk => exact False.elim hq
   | cont => exact False.elim hq
theorem wT (F : FnOk X.prog X.w X.K X.mg X.base CX k f fd ps sp) (hr : Room k X.A) (hg : Gl X x) (hm : X.mg x = some (.ref f)) (hk : keepIn X.K (.ref f) = true) (hb : Binds X.K fd ps ds) (hd : Vals dvs ds) (hx : d8 CX X E)
  (ha : PA X (e :: es) t) (hdb : (x == ("__debug__" : Str)) = false := by decide) (he : starEach (e :: es) X.env = (false, eval e X.env) :: starEach es X.env := by rfl) (hpl : (backTo pos (starEach es X.env)).any (·.1) = false := by rfl) :
  PE X (.Call (.Name x p) (e :: es) [] pos) (tT sp dvs E t) := by
 intro pins s σ H Q I h
 refine wpAny_Call_Name_kw (fH I hg hm ?_ hdb)
 refine PySem.W.callWith_K (h₀ := X.base) I.ok.mod.kin hk (thn (ha pos pins s σ H _ I h) fun us s1 ⟨vs, H1, I1, r, q⟩ => ⟨I1.kIn, ?_⟩) he hpl
 exact m9 F hr hb hd hx I1 r q
structure Mk (K : Frag) (C f : Addr) : Prop where
 makes : makesIn K C = true
 init : findIn K (.ref C) "__init__" = some (some (.ref f))
 fn : isFn K (.ref f) = true
 kp : keepIn K (.ref C) = true
theorem uN {pins : List (Addr × Obj)} {σ : St} {H : Hp} {s : Shared} {Q : VK} {us : List Value} {vs : List V} (M : Mk X.K C f) (F : FnOk X.prog X.w X.K X.mg X.base CX k f fd ps sp) (hr : Room (k + 1) X.A) (hb : Binds X.K fd ps ds) (hd : Vals dvs ds)
  (hx : d8 CX X E) (I : Inv X pins σ H s) (r : Vals vs us)
  (h : ∀ x dx, H x = none -> H dx = none -> dx ≠ x -> sp (.ref x :: (vs ++ dvs)) (upd (upd H dx (.own x)) x (.ins C dx [])) (fun v H2 => v = .non /\ Q (.ref x) H2) E) :
  wpAny (model X.prog X.w) X.A (call (.ref C) us) (EP X pins σ Q) X.xe s := by
 have hq := h (s.heap.objs.size + 1) s.heap.objs.size (I.hok.fresh (Nat.le_succ _)) (I.hok.fresh (Nat.le_refl _)) (Nat.ne_of_lt (Nat.lt_succ_self _))
 have I2 := Inv.made (C := C) I
 have r2 : Vals (V.ref (s.heap.objs.size + 1) :: (vs ++ dvs)) (Value.ref (s.heap.objs.size + 1) :: (us ++ ds)) := .cons rfl (r.append hd)
 have hl : (Value.ref (s.heap.objs.size + 1) :: us ++ ds).length = ps.length := by
  have e := r2.length
  rw [F.len _ _ _ _ hq] at e
  exact e.symm
 refine wpAny_call (vX (f := f) I.kIn M.makes M.init (beq_iff_eq.mp M.fn) (codeAny_mono (F.run _ X.stack _ _ ⟨Value.ref (s.heap.objs.size + 1) :: us, []⟩ (Value.ref (s.heap.objs.size + 1) :: (us ++ ds)) _ _ E (hr.make C us [])
  (I2.env0.make C us []) (hb _ (Value.ref (s.heap.objs.size + 1) :: us) I2.kIn hl) r2 hq) fun r s' hq' => ?_))
 cases r with
 | error e => exact hx pins σ _ _ e s' I2 hq'
 | ok fl =>
   cases fl with
   | ret u =>
     obtain ⟨v, H', I3, rv, ev, q3⟩ := I2.after hq'
     subst ev
     exact ⟨rv, ⟨V.ref (s.heap.objs.size + 1), H', I3, rfl, q3⟩⟩
   | next => exact False.elim hq'
   | brk => exact False.elim hq'
   | cont => exact False.elim hq'
end
section
variable {X : Cx} {CX : CXT} {k : Nat} {f C : Addr} {fd : FuncData} {ps ks : List Str} {sp : Sp} {E : XK} {x m : Str} {p pos apos kpos : Pos} {e o : Expr} {es : List Expr} {kws : List Keyword} {te ta : TE} {t tk : TA} {nm : Option Str}
variable {g : List Value -> List Value -> List Value} {gV : List V -> List V -> List V}
end
structure ai (N P : List Str) (sc : Scope) : Prop where
 kind : sc.kind = .function
 co : sc.isCoroutine = false
 gen : sc.isGenerator = false
 nd : N.Nodup
 pre : N.take P.length = P
 par : ∀ x ∈ P, sc.names.lookup x = some .local ∨ sc.names.lookup x = some .cell
 nofree : ∀ y ∈ sc.names, y.2 ≠ .free
theorem oC {kindOf : Str -> Option NameKind} {x : Str} : ∀ {binds : List (Str × Value)} {m : Str -> Option Value}, (∀ v, (x, v) ∉ binds) -> bindL kindOf binds m x = m x
 | [], _, _ => rfl
 | (n, v) :: r, m, h => by
   unfold bindL
   rw [oC fun w hw => h w (List.mem_cons_of_mem _ hw)]
   split
   ·have : x ≠ n := by rintro rfl; exact h v List.mem_cons_self
    simp [this]
   ·rfl
theorem nY {kindOf : Str -> Option NameKind} {x : Str} : ∀ {binds : List (Str × Value)} {m : Str -> Option Value}, (∀ v, (x, v) ∉ binds) -> bindC kindOf binds m x = m x
 | [], _, _ => rfl
 | (n, v) :: r, m, h => by
   unfold bindC
   rw [nY fun w hw => h w (List.mem_cons_of_mem _ hw)]
   split
   ·rfl
   ·have : x ≠ n := by rintro rfl; exact h v List.mem_cons_self
    simp [this]
theorem oz {kindOf : Str -> Option NameKind} {x : Str} {v : Value} : ∀ {P : List Str} {vs : List Value} {i : Nat} {m : Str -> Option Value}, P.Nodup -> P[i]? = some x -> vs[i]? = some v -> kindOf x = some .local ->
  bindL kindOf (P.zip vs) m x = some v
 | [], _, _, _, _, h, _, _ => by simp at h
 | _ :: _, [], _, _, _, _, h, _ => by simp at h
 | p :: P, w :: vs, 0, m, nd, h1, h2, hk => by
   simp at h1 h2; subst h1; subst h2
   show bindL kindOf ((p, w) :: P.zip vs) m p = _
   unfold bindL
   rw [oC fun v hv => (List.nodup_cons.mp nd).1 (List.of_mem_zip hv).1, if_pos hk]
   simp
 | p :: P, w :: vs, i + 1, m, nd, h1, h2, hk => by
   show bindL kindOf ((p, w) :: P.zip vs) m x = _
   unfold bindL
   exact oz (i := i) (List.nodup_cons.mp nd).2 (by simpa using h1) (by simpa using h2) hk
theorem oF {kindOf : Str -> Option NameKind} {x : Str} {v : Value} : ∀ {P : List Str} {vs : List Value} {i : Nat} {m : Str -> Option Value}, P.Nodup -> P[i]? = some x -> vs[i]? = some v -> kindOf x ≠ some .local ->
  bindC kindOf (P.zip vs) m x = some v
 | [], _, _, _, _, h, _, _ => by simp at h
 | _ :: _, [], _, _, _, _, h, _ => by simp at h
 | p :: P, w :: vs, 0, m, nd, h1, h2, hk => by
   simp at h1 h2; subst h1; subst h2
   show bindC kindOf ((p, w) :: P.zip vs) m p = _
   unfold bindC
   rw [nY fun v hv => (List.nodup_cons.mp nd).1 (List.of_mem_zip hv).1, if_neg hk]
   simp
 | p :: P, w :: vs, i + 1, m, nd, h1, h2, hk => by
   show bindC kindOf ((p, w) :: P.zip vs) m x = _
   unfold bindC
   exact oF (i := i) (List.nodup_cons.mp nd).2 (by simpa using h1) (by simpa using h2) hk
def cE (N : List Str) (vs : List V) : St := vs.map some ++ List.replicate (N.length - vs.length) none
def fT (CX : CXT) (P : Program) (w : World) (K : Frag) (mg : Str -> Option Value) (base : Heap) (N : List Str) (qual : Str) (scope : Scope) (f : Addr) (cd : Value) (A : Around) (outer : List Env) (s : Shared) (H : Hp) (E : XK) : Cx where
 prog := P
 w := w
 K := K
 mg := mg
 base := base
 A := A.deeper (envOfC qual scope s.heap.objs.size f cd)
 N := N
 s_0 := s
 H_0 := H
 env := envOfC qual scope s.heap.objs.size f cd
 outer := outer
 stack := envOfC qual scope s.heap.objs.size f cd :: outer
 ex := []
 calm := true
 fn := fun _ => true
 pn := []
 xe := fun e s' => wpAny (model P w) (A.deeper (envOfC qual scope s.heap.objs.size f cd)) (leaving (envOfC qual scope s.heap.objs.size f cd) e) (fun _ s'' => CX outer H s E e s'') (fun e' s'' => CX outer H s E e' s'') s'
theorem qZ {sc : Scope} {n : Nat} {x : Str} (h : sc.names.lookup x = some .cell) : ∃ c, (cellsFrom n sc.names []).lookup x = some c := by
 have q := PySem.W.cellsFrom_some sc.names n [] (.inl h)
 exact Option.isSome_iff_exists.mp q
theorem oj {CX : CXT} {P : Program} {w : World} {K : Frag} {mg : Str -> Option Value} {base : Heap} {N ps : List Str} {qual : Str} {scope : Scope} {f : Addr} {cd : Value} {A : Around} {outer : List Env} {s s1 : Shared} {H : Hp} {E : XK} {us : List Value} {vs : List V}
  (S : ai N ps scope) (hd : A.handled = none) (e0 : Env0 P w K mg base A outer s H) (hl : vs.length = ps.length) (r : Vals vs us)
  (x : InCallC s s.heap.objs.size (bindL (envOfC qual scope s.heap.objs.size f cd).kindOf (ps.zip us) fun _ => none) (cellsFrom (s.heap.objs.size + 1) scope.names []) (bindC (envOfC qual scope s.heap.objs.size f cd).kindOf (ps.zip us) fun _ => none) s1) :
  Inv (fT CX P w K mg base N qual scope f cd A outer s H E) [] (cE N vs) H s1 := by
 have hpl : ps.length <= N.length := by have := congrArg List.length S.pre; rw [List.length_take] at this; omega
 obtain ⟨h1, tk, rfl, hk⟩ := x.done
 have noA : ∀ b : Addr, b ∉ (fT CX P w K mg base N qual scope f cd A outer s H E).ex := fun b z => absurd (show b ∈ ([] : List Addr) from z) (by simp)
 refine ⟨⟨e0.mod, S.kind, rfl, rfl, Nat.le_refl _, fun y z c h1 h2 => ?_, fun y hy => ?_, fun y c _ h => ?_, fun _ => hd, Around.frames_deeper e0.frames, .inr ⟨rfl, rfl⟩, fun b z => absurd z (noA b), e0.bs, e0.bsz, fun b _ _ => noA b, fun b z => absurd z (noA b), e0.funs, e0.frf⟩,
  rfl, e0.bare, Un.kept hk, ⟨_, x.toInCall.ns, fun i y v h1 h2 h3 => ?_⟩, fun y c h => ⟨_, x.cell y c h⟩, e0.hok.fresh (Nat.le_refl _), fun y c h => ?_, fun p hp => absurd (show p ∈ ([] : List (Addr × Obj)) from hp) (by simp), e0.hok.kept hk, ?_⟩
 ·exact name_of_addr x.apart (PySem.mem_of_lookup h1) (PySem.mem_of_lookup h2)
 ·have hy : scope.names.lookup y = some .cell ∨ scope.names.lookup y = some .free := hy
  rcases hy with hy | hy
  ·exact qZ hy
  ·exact absurd rfl (S.nofree _ (PySem.mem_of_lookup hy))
 ·exact Nat.le_of_lt (x.above y c (PySem.mem_of_lookup h))
 ·have hi : i < vs.length := by
   unfold cE at h2
   by_cases hi : i < vs.length
   ·exact hi
   ·rw [List.getElem?_append_right (by simpa using hi)] at h2
    rw [List.getElem?_replicate] at h2
    split at h2 <;> cases h2
  have ha : vs[i]? = some v := by
   unfold cE at h2
   rw [List.getElem?_append_left (by simpa using hi), List.getElem?_map] at h2
   cases e : vs[i]? with
   | none => rw [e] at h2; cases h2
   | some a => rw [e] at h2; cases h2; rfl
  obtain ⟨u, hu, rv⟩ := r.get ha
  have hp : ps[i]? = some y := by
   rw [<- S.pre, List.getElem?_take_of_lt (by omega)]; exact h1
  have ndP : ps.Nodup := by rw [<- S.pre]; exact S.nd.sublist (List.take_sublist _ _)
  refine ⟨u, rv, ?_⟩
  rcases S.par y (List.mem_of_getElem? hp) with k | k
  ·exact .inl ⟨k, oz ndP hp hu k⟩
  ·obtain ⟨c, e⟩ := qZ (n := s.heap.objs.size + 1) k
   refine .inr ⟨.inl k, c, e, ?_⟩
   have q := x.cell y c e
   rw [oF ndP hp hu (by show scope.names.lookup y ≠ _; rw [k]; decide)] at q
   exact q
 ·exact e0.hok.fresh (Nat.le_of_lt (x.above y c (PySem.mem_of_lookup h)))
 ·unfold cE
  show _ = N.length
  rw [List.length_append, List.length_map, List.length_replicate]
  omega
theorem Bg {CX : CXT} {P : Program} {w : World} {K : Frag} {mg : Str -> Option Value} {base : Heap} {k : Nat} {f : Addr} {name qual : Str} {params : Arguments} {body : List Stmt} {scope : Scope} {dV kV doc pm cdv ct oc : Value} {an od : Option Addr}
  {osl : Array (Option Value)} {N ps : List Str} {sp : Sp} (lk : K.lookup f = some ⟨oc, od, .func (fnOf name qual params body scope dV kV doc pm an cdv ct), osl⟩) (hcd : codeIn K cdv qual = true) (S : ai N ps scope)
  (len : ∀ vs H Q E, sp vs H Q E -> vs.length = ps.length)
  (hbody : ∀ (A : Around) (outer : List Env) (s : Shared) (H : Hp) (vs : List V) (Q : VK) (E : XK), Room k (A.deeper (envOfC qual scope s.heap.objs.size f cdv)) -> sp vs H Q E ->
   ∃ t, PSs (fT CX P w K mg base N qual scope f cdv A outer s H E) body t /\ t { nx := fun _ H' => Q .non H', rt := Q } (cE N vs) H) :
  FnOk P w K mg base CX (k + 1) f (fnOf name qual params body scope dV kV doc pm an cdv ct) ps sp := by
 refine ⟨len, fun A outer s H args us vs Q E hr e0 hb r hsp => ?_⟩
 have hl := len _ _ _ _ hsp
 have KX : K.In s.heap := e0.mod.kin.keeps fun b o e => (e0.bs b o e).1
 have lim : s.heap.NoLimit := e0.mod.nolimit.keeps fun b o e => (e0.bs b o e).1
 have hkind : ∀ y ∈ ps.zip us, scope.names.lookup y.1 = some .local ∨ (scope.names.lookup y.1 = some .cell /\ ((cellsFrom (s.heap.objs.size + 1) scope.names []).lookup y.1).isSome = true) := fun ⟨n, v⟩ hy => by
  rcases S.par n (List.of_mem_zip hy).1 with q | q
  ·exact .inl q
  ·exact .inr ⟨q, PySem.W.cellsFrom_some _ _ _ (.inl q)⟩
 refine codeAny_call_function hr.depth (KX _ _ lk) rfl S.co S.gen rfl (PySem.W.codeRec_of KX hcd) (hb _ _ _ _ ?_)
 refine wpAny_newFunctionEnv_cells S.kind hkind fun env he s1 x => ?_
 subst he
 refine ⟨lim.keeps x.toInCall.keep, codeAny_func ?_⟩
 obtain ⟨t, ht, hq⟩ := hbody A outer s H vs Q E (hr.deeper _) hsp
 have I : Inv (fT CX P w K mg base N qual scope f cdv A outer s H E) [] (cE N vs) H s1 := oj S hr.hd e0 hl r x
 refine wpAny_mono (ht [] s1 (cE N vs) H _ I hq) (fun fl s' hs => ?_) fun e s' hs => hs
 have fin : ∀ {σ' : St} {H' : Hp} {v : V} {u : Value}, Inv (fT CX P w K mg base N qual scope f cdv A outer s H E) [] σ' H' s' -> RelV v u -> Q v H' -> CE outer P w H s Q u s' :=
  fun {σ' H' v u} J rv q => ⟨v, H', J.os, J.bare, J.base, J.hok, rv, q⟩
 cases fl with
 | ret u =>
   obtain ⟨v, σ', H', J, rv, q⟩ := hs
   exact fin J rv q
 | next =>
   obtain ⟨σ', H', J, q⟩ := hs
   exact fin (v := V.non) (u := Value.none) J rfl q
 | brk =>
   obtain ⟨_, _, _, q⟩ := hs
   exact False.elim q
 | cont =>
   obtain ⟨_, _, _, q⟩ := hs
   exact False.elim q
end L2
namespace L2
open PySem PySem.Spec PyProof.Rows
section
variable {X : Cx} {x : Str} {p pos : Pos} {e : Expr} {es : List Expr} {t : TA} {id T : String} {r : List V -> Hp -> VK -> Prop}
def tCB (r : List V -> Hp -> VK -> Prop) (t : TA) : TE := fun σ H Q => t σ H fun vs H1 => r vs H1 Q
theorem jD (hc : CallR X (.builtin id) r) (hg : Gl X x) (hm : X.mg x = none) (hv : bootBuiltins x = some (.builtin id)) (ha : PA X (e :: es) t) (hn : x ≠ "__name__" := by decide) (hdb : (x == ("__debug__" : Str)) = false := by decide)
  (he : starEach (e :: es) X.env = (false, eval e X.env) :: starEach es X.env := by rfl) (hpl : (backTo pos (starEach es X.env)).any (·.1) = false := by rfl) : PE X (.Call (.Name x p) (e :: es) [] pos) (tCB r t) := by
 intro pins s σ H Q I h
 refine wpAny_Call_Name_kw (rY I hg hm hv ?_ hn hdb)
 exact PyProof.Rows.callWith_builtin1 (thn (ha pos pins s σ H _ I h) fun us s1 ⟨vs, H1, I1, r1, q1⟩ => hc pins s1 σ H1 vs us Q I1 r1 q1) he hpl
theorem o9 (hc : CallR X (.type T) r) (hg : Gl X x) (hm : X.mg x = none) (hv : bootBuiltins x = some (.type T)) (ha : PA X (e :: es) t) (hn : x ≠ "__name__" := by decide) (hdb : (x == ("__debug__" : Str)) = false := by decide)
  (he : starEach (e :: es) X.env = (false, eval e X.env) :: starEach es X.env := by rfl) (hpl : (backTo pos (starEach es X.env)).any (·.1) = false := by rfl) : PE X (.Call (.Name x p) (e :: es) [] pos) (tCB r t) := by
 intro pins s σ H Q I h
 refine wpAny_Call_Name_kw (rY I hg hm hv ?_ hn hdb)
 exact PyProof.Rows.callWith_type1 (thn (ha pos pins s σ H _ I h) fun us s1 ⟨vs, H1, I1, r1, q1⟩ => hc pins s1 σ H1 vs us Q I1 r1 q1) he hpl
end
end L2
namespace HT
open PySem PyProof.Rows
def lexLt : List Int -> List Int -> Bool
 | [], [] => false
 | [], _ :: _ => true
 | _ :: _, [] => false
 | x :: xs, y :: ys => if x = y then lexLt xs ys else decide (x < y)
theorem rS (x y : Int) (xs ys : List Int) : lexLt (x :: xs) (y :: ys) = if x = y then lexLt xs ys else decide (x < y) := rfl
theorem nz : lexLt [] [] = false := rfl
theorem mT (y : Int) (ys : List Int) : lexLt [] (y :: ys) = true := rfl
theorem nt (x : Int) (xs : List Int) : lexLt (x :: xs) [] = false := rfl
theorem vP (A : Around) (s : Shared) (a : Int) (t : Tok) (c : Int) (u : Tok) : ∃ e, SeqAt.EqAt A s (.int a t) (.int c u) e /\ (e = true ↔ a = c) :=
 ⟨(a == c), SeqAt.EqAt.int_int a t c u, by simp⟩
theorem vm (A : Around) (s : Shared) (a : Int) (t : Tok) (c : Int) (u : Tok) (prog : Program) (w : World) (E : Value -> Shared -> Prop) (Q : Value -> Shared -> Prop) (h : Q (.bool (decide (a < c))) s) :
  wpAny (model prog w) A (richCompare .Lt (.int a t) (.int c u)) Q E s :=
 (PyProof.Rows.lt_int h : wpAny (model prog w) A (compareOp .Lt (.int a t) (.int c u)) Q E s)
section
open PySem.SeqAt
open PySem.AutoSeq1 (wpAny_loadPart')
open PySem.MeetsSeq PySem.MeetsSeq2 PySem.MeetsSeq3
theorem nS (l b : Addr) (items items2 : Array Value) (n n2 : Nat) (dd dd2 : Option Addr) (sl sl2 : Array (Option Value)) (ns ms : List Int) (hi : IntsAre items.toList ns) (hj : IntsAre items2.toList ms) :
  Meets (Builtin.«tuple.__lt__» ⟨[.ref l, .ref b], []⟩)
   (fun _ R s => s.heap.get? l = some { cls := .type "tuple", dict := dd, data := .seq items n, slots := sl } /\ s.heap.get? b = some { cls := .type "tuple", dict := dd2, data := .seq items2 n2, slots := sl2 } /\
    R (.ok (.ret (.bool (lexLt ns ms)))) s) :=
 .of_wp fun prog w A R s h => by
  obtain ⟨hp, g, d, tk, os⟩ := s; obtain ⟨hl, hb, h⟩ := h
  have f2 := AutoSeq1.sub_tuple_tuple
  have z1 : items.size = ns.length := by rw [<- hi.length]; simp
  have z2 : items2.size = ms.length := by rw [<- hj.length]; simp
  wp_walk using wpAny_loadPart' hl, wpAny_loadPart' hb, wpAny_forIn_list _ (fun rest b s' => b.1 = none /\ s' = ⟨hp, g, d, tk, os⟩ /\ ∃ (vs ws : List Value) (ns' ms' : List Int), rest = vs.zip ws /\
   IntsAre vs ns' /\ IntsAre ws ms' /\ ns'.length + items2.size = ms'.length + items.size /\ R (.ok (.ret (.bool (lexLt ns' ms')))) ⟨hp, g, d, tk, os⟩) _
  case turn =>
   rintro ⟨y, x⟩ rest b s' ⟨hb', rfl, vs, ws, ns', ms', hz, hvi, hwi, hlen, hR⟩
   cases hvi with
   | nil => rw [List.zip_nil_left] at hz; cases hz
   | cons a t hvi' =>
     cases hwi with
     | nil => rw [List.zip_nil_right] at hz; cases hz
     | cons c u hwi' =>
       rw [List.zip_cons_cons] at hz
       injection hz with hyx hrest
       injection hyx with hy hx
       subst hy hx
       rw [rS] at hR
       simp only [List.length_cons] at hlen
       obtain ⟨e, he, hiff⟩ := vP A.in1 ⟨hp, g, d, tk, os⟩ a t c u
       refine wpAny_bind (he prog w _ _ ?_)
       cases e with
       | true =>
         rw [if_pos (hiff.mp rfl)] at hR
         wp_walk
         exact ⟨rfl, rfl, _, _, _, _, hrest, hvi', hwi', by omega, hR⟩
       | false =>
         rw [if_neg (fun q => absurd (hiff.mpr q) Bool.false_ne_true)] at hR
         have hri := vm A.in1 ⟨hp, g, d, tk, os⟩ a t c u prog w
         wp_walk using hri
         exact ⟨_, rfl, by simpa using hR⟩
  case fin =>
   rintro ⟨b1, b2⟩ s' ⟨hb', rfl, vs, ws, ns', ms', hz, hvi, hwi, hlen, hR⟩
   simp only at hb'
   subst hb'
   have hv : lexLt ns' ms' = decide (items.size < items2.size) := by
    cases hvi with
    | nil =>
      cases hwi with
      | nil =>
        simp only [List.length_nil] at hlen
        rw [nz]
        exact (decide_eq_false (by omega)).symm
      | cons c u hw =>
        simp only [List.length_nil, List.length_cons] at hlen
        rw [mT]
        exact (decide_eq_true (by omega)).symm
    | cons a t hv =>
      cases hwi with
      | nil =>
        simp only [List.length_nil, List.length_cons] at hlen
        rw [nt]
        exact (decide_eq_false (by omega)).symm
      | cons c u hw =>
        rw [List.zip_cons_cons] at hz
        cases hz
   rw [hv] at hR
   wp_walk
   exact ⟨_, rfl, by simpa [Builtin.Tuple.tupleCompareSizes] using hR⟩
  case h =>
   exact ⟨rfl, rfl, items.toList, items2.toList, ns, ms, rfl, hi, hj, by omega, h⟩
end
section
variable {prog : Program} {w : World} {A : Around} {E : Value -> Shared -> Prop} {s : Shared}
theorem lt_tupInts {l b : Addr} {items items2 : Array Value} {ns ms : List Int} {Q : Value -> Shared -> Prop} (hl : IsTup s.heap l items) (hb : IsTup s.heap b items2) (hi : IntsAre items.toList ns) (hj : IntsAre items2.toList ms)
  (hu : A.units < cLine) (h : Q (.bool (lexLt ns ms)) s) : wpAny (model prog w) A (compareOp .Lt (.ref l) (.ref b)) Q E s := by
 obtain ⟨⟨cls, dd, data, sl⟩, ho, hc, n, hd⟩ := id hl
 obtain ⟨⟨cls2, dd2, data2, sl2⟩, ho2, hc2, n2, hd2⟩ := id hb
 simp only at hc hd hc2 hd2
 subst hc hd hc2 hd2
 exact richCompare_meets_room (op := .Lt) ⟨_, ho, rfl⟩ ⟨_, ho2, rfl⟩ PySem.F.slot_tuple_lt PySem.F.entry_tuple_lt (PySem.F.args_tuple_lt_2 _ _) (nS l b items items2 n n2 dd dd2 sl sl2 ns ms hi hj)
  ⟨ho, ho2, show Value.bool (lexLt ns ms) ≠ Value.notImplemented /\ Q (.bool (lexLt ns ms)) s from ⟨(fun x => nomatch x), h⟩⟩ hu
def sIx (n d : Nat) : Option Int -> Nat
 | none => d
 | some v => if v < 0 then (v + (n : Int)).toNat else min v.toNat n
theorem sIx_none (n d : Nat) : sIx n d none = d := rfl
theorem sIx_nat (n d k : Nat) : sIx n d (some (k : Int)) = min k n := by
 show (if (k : Int) < 0 then ((k : Int) + (n : Int)).toNat else min (k : Int).toNat n) = min k n
 rw [if_neg (by omega), Int.toNat_natCast]
end
end HT
namespace L2
open PySem PySem.Spec PyProof.Rows
abbrev TO := St -> Hp -> (Option Int -> Hp -> Prop) -> Prop
def PO (X : Cx) (e : Option Expr) (t : TO) : Prop :=
 ∀ (pins : List (Addr × Obj)) (s : Shared) (σ : St) (H : Hp) (Q : Option Int -> Hp -> Prop), Inv X pins σ H s -> t σ H Q ->
   wpAny (model X.prog X.w) X.A (evalPart e X.env) (fun u s' => ∃ o H', Inv X pins σ H' s' /\ IsPart u o /\ Q o H') X.xe s
def sS : TO := fun _ H Q => Q none H
def xV (t : TE) : TO := fun σ H Q => t σ H fun x H1 => ∃ i, x = .int i /\ Q (some i) H1
theorem sj {ns : List Int} : ∀ {us : List Value}, Vals (ns.map V.int) us -> IntsAre us ns := by
 induction ns with
 | nil => intro us r; rw [List.map_nil] at r; cases r; exact .nil
 | cons n ns ih =>
   intro us r
   rw [List.map_cons] at r
   cases r with
   | cons r1 r2 =>
     obtain ⟨t, e⟩ := r1
     subst e
     exact .cons n t (ih r2)
section
variable {X : Cx} {e : Expr} {te : TE} {lo hi : Option Expr} {tl th : TO} {pos p2 : Pos}
theorem sY : PO X none sS := by
 intro pins s σ H Q I h
 rw [evalPart_none]
 exact wpAny_pure ⟨none, H, I, .none, h⟩
theorem dU (h : PE X e te) : PO X (some e) (xV te) := by
 intro pins s σ H Q I hw
 rw [evalPart_some]
 refine thn (h pins s σ H _ I hw) fun u s1 ⟨x, H1, I1, r1, q1⟩ => ?_
 obtain ⟨i, rfl, q⟩ := q1
 obtain ⟨t, rfl⟩ := r1
 exact ⟨some i, H1, I1, .int i t, q⟩
def SlR (X : Cx) (r : V -> Option Int -> Option Int -> Hp -> VK -> Prop) : Prop :=
 ∀ (pins : List (Addr × Obj)) (s : Shared) (σ : St) (H : Hp) (x : V) (v vl vu : Value) (lo hi : Option Int) (sl : Addr) (Q : VK), Inv X pins σ H s -> RelV x v -> s.heap.IsSliceOf sl vl vu .none -> IsPart vl lo -> IsPart vu hi -> r x lo hi H Q ->
   ∃ T id, typeLookup (.type T) "__getitem__" = pure (some (.builtin id)) /\ s.TypeIs v T /\ wpAny (model X.prog X.w) X.A (getItem v (.ref sl)) (EP X pins σ Q) X.xe s
def tSl (r : V -> Option Int -> Option Int -> Hp -> VK -> Prop) (te : TE) (tl th : TO) : TE := fun σ H Q => te σ H fun x H1 => tl σ H1 fun l H2 => th σ H2 fun u H3 => r x l u H3 Q
theorem ie {r : V -> Option Int -> Option Int -> Hp -> VK -> Prop} (hr : SlR X r) (he : PE X e te) (hl : PO X lo tl) (hu : PO X hi th) : PE X (.Subscript e (.Slice lo hi none p2) pos) (tSl r te tl th) := by
 intro pins s σ H Q I h
 refine Subscript_ (thn (he pins s σ H _ I h) fun v s1 ⟨x, H1, I1, r1, q1⟩ => ?_)
 refine wpAny_Slice (thn (hl pins s1 σ H1 _ I1 q1) fun vl s2 ⟨l, H2, I2, pl, q2⟩ => thn (hu pins s2 σ H2 _ I2 q2) fun vu s3 ⟨u, H3, I3, pu, q3⟩ => ?_)
 rw [evalPart_none]
 refine wpAny_pure ?_
 have I4 : Inv X pins σ H3 { s3 with heap := s3.heap.push { cls := .type "slice", data := .fields #[vl, vu, .none] } } := I3.kept (t' := s3.toks) fun b ob q => Heap.get?_push_of_some _ q
 obtain ⟨T, id, hT, ht, hg⟩ := hr pins { s3 with heap := s3.heap.push { cls := .type "slice", data := .fields #[vl, vu, .none] } } σ H3 x v vl vu l u s3.heap.objs.size Q I4 r1 (Heap.IsSliceOf.new ..) pl pu q3
 show wpAny (model X.prog X.w) X.A (subscriptTail e (.Slice lo hi none p2) v (.ref s3.heap.objs.size)) (EP X pins σ Q) X.xe { s3 with heap := s3.heap.push { cls := .type "slice", data := .fields #[vl, vu, .none] } }
 exact tail_any (ops := [.ref s3.heap.objs.size, v]) ht hT hg (by with_unfolding_all rfl)
def mS (xs : List V) (lo hi : Option Int) : List V := (xs.drop (HT.sIx xs.length 0 lo)).take (HT.sIx xs.length xs.length hi - HT.sIx xs.length 0 lo)
theorem ra (xs : List V) (lo hi : Option Int) : (mS xs lo hi).length <= xs.length := by
 unfold mS
 rw [List.length_take, List.length_drop]
 omega
end
end L2
namespace L2
open PySem PySem.Spec PyProof.Rows
def ixN (n : Nat) (i : Int) : Option Nat := if 0 <= i then (if i < n then some i.toNat else none) else if -(n : Int) <= i then some (i + n).toNat else none
def atI {α : Type} (xs : List α) (i : Int) : Option α := (ixN xs.length i).bind fun j => xs[j]?
theorem xz {n : Nat} {i : Int} {j : Nat} (h : ixN n i = some j) : seqIndex? i n = some j /\ j < n /\ -(n : Int) <= i /\ i < n := by
 unfold ixN at h
 by_cases h0 : 0 <= i
 ·rw [if_pos h0] at h
  by_cases h1 : i < n
  ·rw [if_pos h1] at h
   have e : i.toNat = j := Option.some.inj h
   exact ⟨by rw [seqIndex_of h0 h1, e], by omega, by omega, h1⟩
  ·rw [if_neg h1] at h; cases h
 ·rw [if_neg h0] at h
  by_cases h1 : -(n : Int) <= i
  ·rw [if_pos h1] at h
   have e : (i + n).toNat = j := Option.some.inj h
   exact ⟨by rw [seqIndex_neg (by omega) h1, e], by omega, h1, by omega⟩
  ·rw [if_neg h1] at h; cases h
theorem sP {α : Type} {xs : List α} {i : Int} {v : α} (h : atI xs i = some v) : ∃ j, seqIndex? i xs.length = some j /\ xs[j]? = some v /\ j < xs.length /\ -(xs.length : Int) <= i /\ i < xs.length := by
 unfold atI at h
 cases e : ixN xs.length i with
 | none => rw [e] at h; cases h
 | some j =>
   rw [e] at h
   obtain ⟨h1, h2, h3, h4⟩ := xz e
   exact ⟨j, h1, h, h2, h3, h4⟩
theorem xb {α : Type} {xs : List α} {j : Nat} {v : α} (h : xs[j]? = some v) : atI xs (j : Int) = some v := by
 have hj : j < xs.length := (List.getElem?_eq_some_iff.mp h).1
 have e : ixN xs.length (j : Int) = some j := by
  unfold ixN
  rw [if_pos (by omega), if_pos (by omega)]; simp
 unfold atI; rw [e]; exact h
def pF (b : Expr) : Prop := ∀ o i, subscripted b false o i = operate [o, i] (getItem o i)
def IxR (X : Cx) (r : R2) : Prop :=
 ∀ (value slice : Expr) (pins : List (Addr × Obj)) (s : Shared) (σ : St) (H : Hp) (x y : V) (v u : Value) (Q : VK), Inv X pins σ H s -> RelV x v -> RelV y u -> r x y H Q ->
   subscripted slice false v u = operate [v, u] (getItem v u) -> wpAny (model X.prog X.w) X.A (subscriptTail value slice v u) (EP X pins σ Q) X.xe s
def MtR (X : Cx) (id : String) (r : V -> List V -> Hp -> VK -> Prop) : Prop :=
 ∀ (pins : List (Addr × Obj)) (s : Shared) (σ : St) (H : Hp) (x : V) (xs : List V) (v : Value) (us : List Value) (Q : VK), Inv X pins σ H s -> RelV x v -> Vals xs us -> r x xs H Q ->
   wpAny (model X.prog X.w) X.A (call (.builtin id) (v :: us)) (EP X pins σ Q) X.xe s
section
variable {X : Cx} {a b : Expr} {ta tb : TE} {pos : Pos}
theorem yf {r : R2} (hr : IxR X r) (ha : PE X a ta) (hb : PE X b tb) (hs : pF b) : PE X (.Subscript a b pos) (tOp r ta tb) := by
 intro pins s σ H Q I h
 exact Subscript_ (z6 ha hb I h fun v u s2 x y H2 I2 rx ry q => hr a b pins s2 σ H2 x y v u Q I2 rx ry q (hs _ _))
def Dn (K : Frag) : R2 := fun x y H Q => ∃ p xs i v, x = .ref p /\ y = .int i /\ SqL K H p xs /\ atI xs i = some v /\ Q v H
def D8 (K : Frag) : R2 := fun x y H Q => ∃ p xs i v, x = .ref p /\ y = .int i /\ SqT K H p xs /\ atI xs i = some v /\ Q v H
theorem wX : IxR X (Dn X.K) := by
 intro value slice pins s σ H x y v u Q I rx ry h hs
 obtain ⟨p, xs, i, z, rfl, rfl, hq, he, q⟩ := h
 cases rx
 obtain ⟨t, rfl⟩ := ry
 obtain ⟨its, r, pl, hz⟩ := I.list hq
 obtain ⟨j, h1, h2, h3, h4, h5⟩ := sP he
 obtain ⟨w, ew, rw'⟩ := r.get h2
 have hl := r.length
 have hn := pJ
 have fin : EP X pins σ Q w s := ⟨z, H, I, rw', q⟩
 by_cases h0 : 0 <= i
 ·have hj : i.toNat = j := by
   rw [seqIndex_of h0 h5] at h1
   exact Option.some.inj h1
  exact item_listR pl.isList h0 (by omega) (by rw [hj]; simpa using ew) fin hs
 ·have hj : (i + (its.toArray.size : Int)).toNat = j := by
   rw [seqIndex_neg (by omega) h4] at h1
   rw [List.size_toArray, <- hl]
   exact Option.some.inj h1
  exact subscriptTail_builtinR (x := w) pl.isList.typeIs slot_list_getitem.lookup
   (wpAny_getItem_list_neg (Q := fun r s' => r = w /\ EP X pins σ Q r s') pl.isList (by omega) (by rw [List.size_toArray] <;> omega) (by omega) (by rw [hj]; simpa using ew) ⟨rfl, fin⟩) hs
theorem z5 : IxR X (D8 X.K) := by
 intro value slice pins s σ H x y v u Q I rx ry h hs
 obtain ⟨p, xs, i, z, rfl, rfl, hq, he, q⟩ := h
 cases rx
 obtain ⟨t, rfl⟩ := ry
 obtain ⟨its, r, pl, hz⟩ := I.tuple hq
 obtain ⟨j, h1, h2, h3, h4, h5⟩ := sP he
 obtain ⟨w, ew, rw'⟩ := r.get h2
 have hl := r.length
 have hn := pJ
 have fin : EP X pins σ Q w s := ⟨z, H, I, rw', q⟩
 exact subscriptTail_builtinR (x := w) pl.typeIs slot_tuple_getitem.lookup
  (getItem_tuple (j := j) (Q := fun r s' => r = w /\ EP X pins σ Q r s') pl (by omega) (by omega) (by rw [List.size_toArray, <- hl]; exact h1) (by simpa using ew) ⟨rfl, fin⟩) hs
theorem pR (lo hi : Option Int) (n : Nat) : (sliceBounds lo hi none n).1 = ((HT.sIx n 0 lo : Nat) : Int) /\ (sliceBounds lo hi none n).2.1 = ((HT.sIx n n hi : Nat) : Int) /\ (sliceBounds lo hi none n).2.2 = 1 := by
 refine ⟨?_, ?_, rfl⟩
 ·cases lo with
  | none => simp [sliceBounds, HT.sIx]
  | some i =>
    simp only [sliceBounds, HT.sIx, Option.getD_none, show (1 : Int) > 0 by decide, if_true]
    by_cases h : i < 0
    ·simp only [h, if_true] <;> omega
    ·simp only [h, if_false] <;> omega
 ·cases hi with
  | none => simp [sliceBounds, HT.sIx]
  | some i =>
    simp only [sliceBounds, HT.sIx, Option.getD_none, show (1 : Int) > 0 by decide, if_true]
    by_cases h : i < 0
    ·simp only [h, if_true] <;> omega
    ·simp only [h, if_false] <;> omega
theorem nF (its : List Value) (lo hi : Option Int) : slicePick its.toArray lo hi none = ((its.drop (HT.sIx its.length 0 lo)).take (HT.sIx its.length its.length hi - HT.sIx its.length 0 lo)).toArray := by
 obtain ⟨h1, h2, h3⟩ := pR lo hi its.toArray.size
 unfold slicePick
 rw [h1, h2, h3]
 simp only [sliceRange_one, pick_run, List.size_toArray] <;> rfl
def C9 (K : Frag) : V -> Option Int -> Option Int -> Hp -> VK -> Prop := fun x lo hi H Q => ∃ a xs, x = .ref a /\ SqL K H a xs /\ ∀ p, H p = none -> Q (.ref p) (upd H p (.lst (mS xs lo hi)))
theorem kh : SlR X (C9 X.K) := by
 intro pins s σ H x v vl vu lo hi sl Q I rx hs pl pu h
 obtain ⟨a, xs, rfl, hx, q⟩ := h
 cases rx
 obtain ⟨its, r, ht, hz⟩ := I.list hx
 have hlen := r.length
 refine ⟨"list", _, slot_list_getitem.lookup, ht.isList.typeIs, ?_⟩
 refine wpAny_getItem_list_slice ht.isList hs pl pu .none (by simp) ?_ (by rw [List.size_toArray] <;> omega)
 rw [nF, <- hlen]
 refine ⟨.ref s.heap.objs.size, _, I.laid (t' := s.toks) (o := .lst (mS xs lo hi)) (fun b ob q => Heap.get?_push_of_some _ q) (Nat.le_refl _) ?_, rfl, q _ (I.hok.fresh (Nat.le_refl _))⟩
 exact ⟨Nat.le_trans (ra xs lo hi) hz, _, 0, (r.drop (HT.sIx xs.length 0 lo)).take (HT.sIx xs.length xs.length hi - HT.sIx xs.length 0 lo), Heap.get?_push_size _ rfl⟩
def gy : V -> Bool
 | .non => true
 | .bl _ => true
 | .int _ => true
 | .str _ => true
 | _ => false
def eqV : V -> V -> Bool
 | .non, .non => true
 | .bl a, .bl b => a == b
 | .bl a, .int b => (if a then 1 else 0) == b
 | .int a, .bl b => a == (if b then 1 else 0)
 | .int a, .int b => a == b
 | .str a, .str b => a == b
 | _, _ => false
theorem zW {A : Around} {s : Shared} {y x : V} {u v : Value} (ry : RelV y u) (rx : RelV x v) (fy : gy y = true) (fx : gy x = true) : SeqAt.EqAt A s u v (eqV y x) := by
 cases y with
 | non =>
   cases ry
   cases x with
   | non => cases rx; exact SeqAt.EqAt.same _
   | bl b => cases rx; exact SeqAt.EqAt.none_bool b
   | int b => obtain ⟨t, rfl⟩ := rx; exact SeqAt.EqAt.none_int b t
   | str b => obtain ⟨t, rfl⟩ := rx; exact SeqAt.EqAt.none_str b t
   | _ => exact absurd (show false = true from fx) Bool.false_ne_true
 | bl a =>
   cases ry
   cases x with
   | non => cases rx; exact SeqAt.EqAt.bool_none a
   | bl b => cases rx; exact SeqAt.EqAt.bool_bool a b
   | int b => obtain ⟨t, rfl⟩ := rx; exact SeqAt.EqAt.bool_int a b t
   | str b => obtain ⟨t, rfl⟩ := rx; exact SeqAt.EqAt.bool_str a b t
   | _ => exact absurd (show false = true from fx) Bool.false_ne_true
 | int a =>
   obtain ⟨t', rfl⟩ := ry
   cases x with
   | non => cases rx; exact SeqAt.EqAt.int_none a t'
   | bl b => cases rx; exact SeqAt.EqAt.int_bool a t' b
   | int b => obtain ⟨t, rfl⟩ := rx; exact SeqAt.EqAt.int_int a t' b t
   | str b => obtain ⟨t, rfl⟩ := rx; exact SeqAt.EqAt.int_str a t' b t
   | _ => exact absurd (show false = true from fx) Bool.false_ne_true
 | str a =>
   obtain ⟨t', rfl⟩ := ry
   cases x with
   | non => cases rx; exact SeqAt.EqAt.str_none a t'
   | bl b => cases rx; exact SeqAt.EqAt.str_bool a t' b
   | int b => obtain ⟨t, rfl⟩ := rx; exact SeqAt.EqAt.str_int a t' b t
   | str b => obtain ⟨t, rfl⟩ := rx; exact SeqAt.EqAt.str_str a t' b t
   | _ => exact absurd (show false = true from fx) Bool.false_ne_true
 | _ => exact absurd (show false = true from fy) Bool.false_ne_true
def eqU (x : V) (u : Value) : Bool := match u with
 | .none => eqV .non x
 | .bool b => eqV (.bl b) x
 | .int i _ => eqV (.int i) x
 | .str z _ => eqV (.str z) x
 | _ => false
theorem uK {x y : V} {u : Value} (r : RelV y u) (f : gy y = true) : eqU x u = eqV y x := by
 cases y with
 | non => cases r; rfl
 | bl b => cases r; rfl
 | int i => obtain ⟨t, rfl⟩ := r; rfl
 | str z => obtain ⟨t, rfl⟩ := r; rfl
 | _ => exact absurd (show false = true from f) Bool.false_ne_true
theorem qf {x : V} : ∀ {xs : List V} {us : List Value}, Vals xs us -> xs.all gy = true -> us.any (eqU x) = xs.any fun y => eqV y x
 | _, _, .nil, _ => rfl
 | y :: xs, u :: us, .cons r t, f => by
   rw [List.all_cons, Bool.and_eq_true] at f
   rw [List.any_cons, List.any_cons, uK r f.1, qf t f.2]
theorem mn {A : Around} {s : Shared} {x : V} {v : Value} (rx : RelV x v) (fx : gy x = true) : ∀ {xs : List V} {us : List Value}, Vals xs us -> xs.all gy = true -> ∀ u ∈ us, SeqAt.EqAt A s u v (eqU x u)
 | _, _, .nil, _ => fun u hu => by cases hu
 | y :: xs, u :: us, .cons r t, f => fun u' hu => by
   rw [List.all_cons, Bool.and_eq_true] at f
   rcases List.mem_cons.mp hu with rfl | hu
   ·rw [uK r f.1]; exact zW r rx f.1 fx
   ·exact mn rx fx t f.2 u' hu
def inV (x : V) (xs : List V) : Bool := xs.any fun y => eqV y x
def rIn (K : Frag) (neg : Bool) : R2 := fun x y H Q => ∃ p xs, y = .ref p /\ (SqL K H p xs ∨ SqT K H p xs) /\ gy x = true /\ xs.all gy = true /\ Q (.bl (if neg then !inV x xs else inV x xs)) H
theorem ul : OpR X (compareOp .In) (rIn X.K false) := by
 intro pins s σ H x y v u Q I rx ry h
 obtain ⟨p, xs, rfl, hq, fx, fs, q⟩ := h
 cases ry
 rcases hq with hq | hq
 ·obtain ⟨its, r, pl, hz⟩ := I.list hq
  refine SeqAt.in_listAt (eqU x) pl.isList (fun w hw => mn rx fx r fs w (by simpa using hw)) ⟨.bl _, H, I, rfl, ?_⟩
  rw [show its.toArray.any (eqU x) = its.any (eqU x) by simp, qf r fs]
  exact q
 ·obtain ⟨its, r, pl, hz⟩ := I.tuple hq
  refine SeqAt.in_tupleAt (eqU x) pl (fun w hw => mn rx fx r fs w (by simpa using hw)) ⟨.bl _, H, I, rfl, ?_⟩
  rw [show its.toArray.any (eqU x) = its.any (eqU x) by simp, qf r fs]
  exact q
theorem oW : CallR X (.builtin "len") (fun xs H Q => ∃ p ys, xs = [.ref p] /\ (SqL X.K H p ys ∨ SqT X.K H p ys) /\ Q (.int ys.length) H) := by
 intro pins s σ H xs us Q I r h
 obtain ⟨p, ys, rfl, hq, q⟩ := h
 obtain ⟨u, rfl, rx⟩ := tf r
 cases rx
 have hn := pJ
 rcases hq with hq | hq
 ·obtain ⟨its, r', pl, hz⟩ := I.list hq
  have hlen := r'.length
  exact Calls.call_len_list pl.isList (by simp only [List.size_toArray] <;> omega) ⟨.int ys.length, H, I.tok _, ⟨s.toks + 1, by rw [List.size_toArray, hlen]⟩, q⟩
 ·obtain ⟨its, r', pl, hz⟩ := I.tuple hq
  have hlen := r'.length
  exact len_tuple pl (by simp only [List.size_toArray] <;> omega) ⟨.int ys.length, H, I.tok _, ⟨s.toks + 1, by rw [List.size_toArray, hlen]⟩, q⟩
theorem pV : CallR X (.builtin "len") (fun xs H Q => ∃ z, xs = [.str z] /\ z.length <= sizeLine /\ Q (.int z.length) H) := by
 intro pins s σ H xs us Q I r h
 obtain ⟨z, rfl, hz, q⟩ := h
 obtain ⟨u, rfl, t, rfl⟩ := tf r
 have hn := pJ
 exact len_str (by omega) ⟨.int z.length, H, I.tok _, ⟨_, rfl⟩, q⟩
theorem iD : CallR X (.type "tuple") (fun xs H Q => ∃ p ys, xs = [.ref p] /\ ((SqL X.K H p ys /\ ∀ l, H l = none -> Q (.ref l) (upd H l (.tup ys))) ∨ (SqT X.K H p ys /\ Q (.ref p) H))) := by
 intro pins s σ H xs us Q I r h
 obtain ⟨p, ys, rfl, h⟩ := h
 obtain ⟨u, rfl, rx⟩ := tf r
 cases rx
 rcases h with ⟨hq, q⟩ | ⟨hq, q⟩
 ·obtain ⟨its, r', pl, hz⟩ := I.list hq
  have hlen := r'.length
  refine call_tuple_list pl.isList (fun h' kp => ?_) (by simp only [List.size_toArray] <;> omega)
  have I1 : Inv X pins σ H { s with heap := h' } := I.kept (t' := s.toks) kp
  have I2 : Inv X pins σ (upd H h'.objs.size (.tup ys)) { s with heap := h'.push { cls := .type "tuple", data := .seq its.toArray } } :=
   I1.laid (t' := s.toks) (fun b o e => Heap.get?_push_of_some _ e) (Nat.le_refl _) (show ObjOk X.prog X.w _ _ _ (.tup ys) from ⟨hz, its, r', IsTup.new _ _⟩)
  exact ⟨.ref h'.objs.size, _, I2, rfl, q _ (I1.hok.fresh (Nat.le_refl _))⟩
 ·obtain ⟨its, r', pl, hz⟩ := I.tuple hq
  exact call_tuple_same pl ⟨.ref p, H, I, rfl, q⟩
def tyV (K : Frag) (T : String) (x : V) (H : Hp) : Prop := match x with
 | .str _ => T = "str"
 | .int _ => T = "int"
 | .ref p => (T = "list" /\ ∃ xs, SqL K H p xs) ∨ (T = "tuple" /\ ∃ o, K.lookup p = some o /\ o.cls = .type "tuple" /\ o.dict = none) ∨
   (T = "dict" /\ ((∃ kvs, H p = some (.dK kvs)) ∨ ∃ kvs, H p = some (.dT kvs))) ∨ (T = "set" /\ ∃ S n, H p = some (.set S n))
 | _ => False
theorem wp {pins : List (Addr × Obj)} {σ : St} {H : Hp} {s : Shared} {T : String} {x : V} {v : Value} (I : Inv X pins σ H s) (r : RelV x v) (ty : tyV X.K T x H) :
  s.TypeIs v T /\ ∀ a, v = .ref a -> ∃ ob, s.heap.get? a = some ob /\ ob.dict = none := by
 cases x with
 | str z =>
   obtain ⟨t, rfl⟩ := r
   cases (show T = "str" from ty)
   exact ⟨typeIs_str s z t, fun _ e => nomatch e⟩
 | int i =>
   obtain ⟨t, rfl⟩ := r
   cases (show T = "int" from ty)
   exact ⟨typeIs_int s i t, fun _ e => nomatch e⟩
 | ref p =>
   cases r
   rcases ty with ⟨rfl, xs, hq⟩ | ⟨rfl, o, hk, hc, hd⟩ | ⟨rfl, hk⟩ | ⟨rfl, S, n, hk⟩
   ·obtain ⟨its, _, pl, _⟩ := I.list hq
    refine ⟨pl.isList.typeIs, fun a e => ?_⟩
    cases e
    obtain ⟨o, n, e, c, hd, _⟩ := pl
    exact ⟨o, e, hd⟩
   ·refine ⟨⟨o, I.kIn p o hk, hc⟩, fun a e => ?_⟩
    cases e
    exact ⟨o, I.kIn _ o hk, hd⟩
   ·have z : ∃ o, s.heap.get? p = some o /\ o.ExactDict := by
     rcases hk with ⟨kvs, hk⟩ | ⟨kvs, hk⟩
     ·obtain ⟨_, _, _, _, o, _, _, e, ex, _⟩ := I.hok p _ hk
      exact ⟨o, e, ex⟩
     ·obtain ⟨_, _, _, _, o, _, _, e, ex, _⟩ := I.hok p _ hk
      exact ⟨o, e, ex⟩
    obtain ⟨o, e, ex⟩ := z
    refine ⟨⟨o, e, ex.1⟩, fun a e2 => ?_⟩
    cases e2
    exact ⟨o, e, ex.2.1⟩
   ·obtain ⟨o, _, _, _, e, ex, _⟩ := I.hok p _ hk
    refine ⟨⟨o, e, ex.1⟩, fun a e2 => ?_⟩
    cases e2
    exact ⟨o, e, ex.2.1⟩
 | _ => exact False.elim ty
def Dk (K : Frag) (T : String) (r : V -> List V -> Hp -> VK -> Prop) (to : TE) : TE := fun σ H Q => to σ H fun x H1 => tyV K T x H1 /\ r x [] H1 Q
def tBM (K : Frag) (T : String) (r : V -> List V -> Hp -> VK -> Prop) (to : TE) (t : TA) : TE := fun σ H Q => to σ H fun x H1 => tyV K T x H1 /\ t σ H1 fun xs H2 => r x xs H2 Q
variable {o e : Expr} {es : List Expr} {to : TE} {t : TA} {name : Str} {apos cpos : Pos} {T id : String} {r : V -> List V -> Hp -> VK -> Prop}
theorem AL (pa : PlainAttrs T) (slot : Slot T name id) (hty : typeOf (.builtin id) = pure (.type "method_descriptor")) (hm : MtR X id r) (ho : PE X o to)
  (hbase : attributeBase o name X.env (eval o X.env) = eval o X.env := by rfl) (hline : (apos.endLine == cpos.line) = true := by rfl) : PE X (.Call (.Attribute o name apos) [] [] cpos) (Dk X.K T r to) := by
 intro pins s σ H Q I h
 refine wpAny_Call_method0_late hbase hline (thn (ho pins s σ H _ I h) fun v s1 ⟨x, H1, I1, r1, ty, q1⟩ => ?_)
 obtain ⟨h1, h2⟩ := wp I1 r1 ty
 exact ⟨T, id, pa, slot, hty, h1, h2, Calls.callWith_builtin rfl (PySem.evalArgs_none (hm pins s1 σ H1 x [] v [] Q I1 r1 .nil q1))⟩
theorem yd (pa : PlainAttrs T) (slot : Slot T name id) (hty : typeOf (.builtin id) = pure (.type "method_descriptor")) (hm : MtR X id r) (ho : PE X o to) (ha : PA X (e :: es) t)
  (hbase : attributeBase o name X.env (eval o X.env) = eval o X.env := by rfl)
  (hfew : ((backTo cpos (starEach (e :: es) X.env)).all (fun x => !x.1) && (backToKw cpos (keywordEach [] X.env)).all (fun x => x.1.isSome)
   && decide ((e :: es).length + ([] : List Keyword).length + (if ([] : List Keyword).isEmpty then 0 else 1) < 30)) = true := by rfl)
  (hline : (apos.endLine == cpos.line) = true := by rfl) (hs : starEach (e :: es) X.env = (false, eval e X.env) :: starEach es X.env := by rfl) (hplain : (backTo cpos (starEach es X.env)).any (·.1) = false := by rfl) :
  PE X (.Call (.Attribute o name apos) (e :: es) [] cpos) (tBM X.K T r to t) := by
 intro pins s σ H Q I h
 refine wpAny_Call_method_late hbase hfew hline rfl (thn (ho pins s σ H _ I h) fun v s1 ⟨x, H1, I1, r1, ty, q1⟩ => ?_)
 obtain ⟨h1, h2⟩ := wp I1 r1 ty
 refine ⟨T, id, pa, slot, hty, h1, h2, ?_⟩
 have hA := ha cpos pins s1 σ H1 _ I1 q1
 rw [hs] at hA ⊢
 refine Calls.callWith_builtin (by show (false || (backTo cpos (starEach es X.env)).any (·.1)) = false; rw [hplain] <;> rfl) (Calls.evalArgs_plain ?_)
 exact thn hA fun us s2 ⟨vs, H2, I2, r2, q2⟩ => hm pins s2 σ H2 x vs v us Q I2 r1 r2 q2
end
end L2
namespace L2
open PySem PySem.Spec PyProof.Rows
def MtM (X : Cx) (id : String) (r : V -> List V -> Hp -> VK -> Prop) : Prop :=
 ∀ (pins : List (Addr × Obj)) (s : Shared) (σ : St) (H : Hp) (x : V) (xs : List V) (v : Value) (us : List Value) (Q : VK), Inv X pins σ H s -> RelV x v -> Vals xs us -> r x xs H Q ->
   wpAny (model X.prog X.w) X.A (call (.builtin id) (v :: us)) (EP X pins σ Q) X.xe s
theorem Vals.one : ∀ {x : V} {us : List Value}, Vals [x] us -> ∃ u, us = [u] /\ RelV x u
 | _, _, .cons r .nil => ⟨_, rfl, r⟩
theorem Vals.zero : ∀ {us : List Value}, Vals [] us -> us = []
 | _, .nil => rfl
theorem Vals.dropLast {xs : List V} {us : List Value} (h : Vals xs us) : Vals xs.dropLast us.dropLast := by
 induction h with
 | nil => exact .nil
 | cons r t ih =>
   cases t with
   | nil => exact .nil
   | cons q t' => exact .cons r ih
theorem rN {α : Type} (l : List α) : l.eraseIdx (l.length - 1) = l.dropLast := by
 induction l with
 | nil => rfl
 | cons a r ih =>
   cases r with
   | nil => rfl
   | cons b r =>
     have e : (a :: b :: r).length - 1 = ((b :: r).length - 1) + 1 := by
      have h1 : (a :: b :: r).length = r.length + 2 := rfl
      have h2 : (b :: r).length = r.length + 1 := rfl
      omega
     rw [e, List.eraseIdx_cons_succ, ih]
     all_goals rfl
section
variable {X : Cx} {pins : List (Addr × Obj)} {σ : St} {H : Hp} {s : Shared} {l b : Addr} {xs ys zs : List V}
theorem Inv.lset {its its' : List Value} {n : Nat} {f : Array Value -> Array Value} {t' : Nat} (I : Inv X pins σ H s) (hH : H l = some (.lst xs))
  (e : s.heap.get? l = some { cls := .type "list", data := .seq its.toArray n }) (hf : f its.toArray = its'.toArray) (hv : Vals ys its') (hz : ys.length <= sizeLine) :
  Inv X pins σ (upd H l (.lst ys)) { s with heap := s.heap.update l (Obj.mapSeq f), toks := t' } := by
 have q := PySem.IsL.update e f
 rw [hf] at q
 refine I.write (x := l) (e := l) (by rw [hH]; exact trivial) (.inl rfl) (fun b' u hb hu => (Heap.get?_update_other s.heap (Obj.mapSeq f) (Ne.symm hb)).trans hu) ⟨_, q⟩ ?_
 exact ⟨hz, its', _, hv, q⟩
theorem Inv.lnew {its : List Value} {t' : Nat} (I : Inv X pins σ H s) (hv : Vals ys its) (hz : ys.length <= sizeLine) :
  Inv X pins σ (upd H s.heap.objs.size (.lst ys)) { s with heap := s.heap.push { cls := .type "list", data := .seq its.toArray }, toks := t' } :=
 I.laid (fun _ _ q => Heap.get?_push_of_some _ q) (Nat.le_refl _) ⟨hz, its, 0, hv, Heap.get?_push_size _ rfl⟩
theorem Inv.fresh (I : Inv X pins σ H s) : H s.heap.objs.size = none := I.hok.fresh (Nat.le_refl _)
theorem Inv.lstM (I : Inv X pins σ H s) (hH : H l = some (.lst xs)) : xs.length <= sizeLine /\ ∃ (its : List Value) (n : Nat), Vals xs its /\ xs.length = its.length /\ s.heap.get? l = some { cls := .type "list", data := .seq its.toArray n } := by
 obtain ⟨z, its, n, r, e⟩ := I.hok l _ hH
 exact ⟨z, its, n, r, r.length, e⟩
theorem vO {n : Nat} (h : n <= sizeLine) : Builtin.List.listTooLong n = false := by
 unfold Builtin.List.listTooLong
 exact decide_eq_false (by omega)
end
section
variable {X : Cx}
def wB : V -> List V -> Hp -> VK -> Prop := fun x vs H Q => ∃ l xs y, x = .ref l /\ vs = [y] /\ H l = some (.lst xs) /\ xs.length < sizeLine /\ Q .non (upd H l (.lst (xs ++ [y])))
theorem ub : MtM X "list.append" wB := by
 intro pins s σ H x vs v us Q I rx rv h
 obtain ⟨l, xs, y, rfl, rfl, hH, hz, q⟩ := h
 cases rx
 obtain ⟨u, rfl, ru⟩ := rv.one
 obtain ⟨z, its, n, r, hl, e⟩ := I.lstM hH
 refine call_meets F.slot_list_append ⟨_, e, rfl⟩ F.entry_list_append (F.args_list_append_2 _ _) (PySem.list_append l its.toArray n u (by rw [List.size_toArray]; omega)) ⟨e, ?_⟩
 refine ⟨.non, _, I.lset (its' := its ++ [u]) hH e (by simp) (r.append (.cons ru .nil)) ?_, rfl, q⟩
 rw [List.length_append, List.length_singleton]
 omega
def x9 : V -> List V -> Hp -> VK -> Prop := fun x vs H Q => ∃ l b xs zs, x = .ref l /\ vs = [.ref b] /\ H l = some (.lst xs) /\ H b = some (.lst zs) /\ xs.length + zs.length <= sizeLine /\ Q .non (upd H l (.lst (xs ++ zs)))
theorem uC : MtM X "list.extend" x9 := by
 intro pins s σ H x vs v us Q I rx rv h
 obtain ⟨l, b, xs, zs, rfl, rfl, hH, hB, hz, q⟩ := h
 cases rx
 obtain ⟨u, rfl, ru⟩ := rv.one
 cases ru
 obtain ⟨z, its, n, r, hl, e⟩ := I.lstM hH
 obtain ⟨z2, its2, n2, r2, hl2, e2⟩ := I.lstM hB
 have hsz : its.toArray.size + its2.toArray.size <= sizeLine := by rw [List.size_toArray, List.size_toArray]; omega
 have hlong : ¬ (!its.toArray.isEmpty && Builtin.List.listTooLong (its.toArray.size + its2.toArray.size)) = true := by
  rw [vO hsz, Bool.and_false]
  exact Bool.false_ne_true
 refine call_meets F.slot_list_extend ⟨_, e, rfl⟩ F.entry_list_extend (F.args_list_extend_2 _ _)
  (AutoSeq1.list_extend_list_list_0 l its.toArray n b its2.toArray n2 hlong (by rw [List.size_toArray]; omega) (by omega)) ⟨e, e2, ?_⟩
 refine ⟨.non, _, I.lset (its' := its ++ its2) hH e (by simp) (r.append r2) ?_, rfl, q⟩
 rw [List.length_append]
 omega
def D4 : V -> List V -> Hp -> VK -> Prop := fun x vs H Q => ∃ l xs y, x = .ref l /\ vs = [] /\ H l = some (.lst xs) /\ xs[xs.length - 1]? = some y /\ Q y (upd H l (.lst xs.dropLast))
theorem zk : MtM X "list.pop" D4 := by
 intro pins s σ H x vs v us Q I rx rv h
 obtain ⟨l, xs, y, rfl, rfl, hH, hy, q⟩ := h
 cases rx
 have hus := rv.zero
 subst hus
 obtain ⟨z, its, n, r, hl, e⟩ := I.lstM hH
 obtain ⟨u, hu, ru⟩ := r.get hy
 have hy' : its.toArray[its.toArray.size - 1]? = some u := by
  show its.toArray[its.length - 1]? = some u
  rw [<- Array.getElem?_toList, <- hl]
  exact hu
 refine call_meets F.slot_list_pop ⟨_, e, rfl⟩ F.entry_list_pop (F.args_list_pop_1 _) (MeetsSeq.list_pop_last l its.toArray n u hy' (by rw [List.size_toArray]; omega)) ⟨e, ?_⟩
 refine ⟨y, _, I.lset (its' := its.dropLast) hH e ?_ r.dropLast ?_, ru, q⟩
 ·show its.toArray.eraseIdxIfInBounds (its.toArray.size - 1) = its.dropLast.toArray
  rw [List.size_toArray, List.eraseIdxIfInBounds_toArray, rN]
 ·rw [List.length_dropLast]
  omega
def D2 : R2 := fun x y H Q => ∃ l b xs zs, x = .ref l /\ y = .ref b /\ H l = some (.lst xs) /\ H b = some (.lst zs) /\ xs.length + zs.length <= sizeLine /\ ∀ p, H p = none -> Q (.ref p) (upd H p (.lst (xs ++ zs)))
theorem zh : OpR X (binaryOp .Add) D2 := by
 intro pins s σ H x y v u Q I rx ry h
 obtain ⟨l, b, xs, zs, rfl, rfl, hH, hB, hz, q⟩ := h
 cases rx
 cases ry
 obtain ⟨z, its, n, r, hl, e⟩ := I.lstM hH
 obtain ⟨z2, its2, n2, r2, hl2, e2⟩ := I.lstM hB
 refine PySem.P.add_list e e2 ?_ (by rw [List.size_toArray, List.size_toArray]; omega)
 have ea : its.toArray ++ its2.toArray = (its ++ its2).toArray := by simp
 rw [ea]
 exact ⟨.ref _, _, I.lnew (t' := s.toks) (r.append r2) (by rw [List.length_append]; omega), rfl, q _ I.fresh⟩
end
section
variable {prog : Program} {w : World} {A : Around} {E : Value -> Shared -> Prop} {s : Shared}
set_option maxRecDepth 100000 in
end
section
variable {X : Cx}
end
end L2
namespace L2
open PySem PySem.Spec PyProof.Rows
theorem Vals.ref1 {a : Addr} {us : List Value} (r : Vals [V.ref a] us) : us = [Value.ref a] := by
 cases r with
 | cons r t =>
   cases t
   cases r
   rfl
section
variable {prog : Program} {w : World} {A : Around} {E : Value -> Shared -> Prop} {s : Shared} {l : Addr} {its : List Value} {ns : List Int} {Q : Value -> Shared -> Prop}
end
section
variable {X : Cx}
end
section
variable {X : Cx}
end
section
variable {X : Cx}
end
section
variable {X : Cx}
end
mutual
inductive Dp (K : Frag) (H : Hp) : V -> PyData -> Prop
 | non : Dp K H .non .none
 | bl (b : Bool) : Dp K H (.bl b) (.bool b)
 | int (i : Int) : Dp K H (.int i) (.int i)
 | str (x : Str) : Dp K H (.str x) (.str x)
 | lst {a : Addr} {xs : List V} {ds : List PyData} : SqL K H a xs -> mw K H xs ds -> Dp K H (.ref a) (.list ds)
 | tup {a : Addr} {xs : List V} {ds : List PyData} : SqT K H a xs -> mw K H xs ds -> Dp K H (.ref a) (.tuple ds)
inductive mw (K : Frag) (H : Hp) : List V -> List PyData -> Prop
 | nil : mw K H [] []
 | cons {v : V} {vs : List V} {d : PyData} {ds : List PyData} : Dp K H v d -> mw K H vs ds -> mw K H (v :: vs) (d :: ds)
end
section
variable {X : Cx} {pins : List (Addr × Obj)} {σ : St} {H : Hp} {s : Shared}
mutual
theorem Dp.reads (I : Inv X pins σ H s) : ∀ (d : PyData) (v : V) (u : Value), Dp X.K H v d -> RelV v u -> ∃ as, Reads s.heap u d as
 | .none, _, _, h, r => by
   cases h
   cases r
   exact ⟨_, Reads.none⟩
 | .bool b, _, _, h, r => by
   cases h
   cases r
   exact ⟨_, Reads.bool b⟩
 | .int i, _, _, h, r => by
   cases h
   obtain ⟨t, rfl⟩ := r
   exact ⟨_, Reads.int i t⟩
 | .str x, _, _, h, r => by
   cases h
   obtain ⟨t, rfl⟩ := r
   exact ⟨_, Reads.str x t⟩
 | .list ds, _, _, h, r => by
   cases h with
   | lst hs ha =>
     cases r
     obtain ⟨its, rv, ⟨o, n, ho, hc, _, hd⟩, _⟩ := I.list hs
     obtain ⟨as, hr⟩ := Dp.readsAll I ds _ its ha rv
     exact ⟨_, Reads.list ho hc hd hr⟩
 | .tuple ds, _, _, h, r => by
   cases h with
   | tup hs ha =>
     cases r
     obtain ⟨its, rv, ⟨o, ho, hc, n, hd⟩, _⟩ := I.tuple hs
     obtain ⟨as, hr⟩ := Dp.readsAll I ds _ its ha rv
     exact ⟨_, Reads.tuple ho hc hd hr⟩
 | .dict _, _, _, h, _ => by cases h
theorem Dp.readsAll (I : Inv X pins σ H s) : ∀ (ds : List PyData) (vs : List V) (us : List Value), mw X.K H vs ds -> Vals vs us -> ∃ as, ReadsAll s.heap us ds as
 | [], _, _, h, r => by
   cases h
   cases r
   exact ⟨_, ReadsAll.nil⟩
 | d :: ds, _, _, h, r => by
   cases h with
   | cons h1 h2 =>
     cases r with
     | cons r1 r2 =>
       obtain ⟨as, q1⟩ := Dp.reads I d _ _ h1 r1
       obtain ⟨bs, q2⟩ := Dp.readsAll I ds _ _ h2 r2
       exact ⟨_, ReadsAll.cons q1 q2⟩
end
end
section
variable {X : Cx}
def D3 (K : Frag) : R2 := fun x y H Q => ∃ d e, Dp K H x d /\ Dp K H y e /\ SeqAt.shaped d = true /\ SeqAt.shaped e = true /\ Q (.bl (PyData.eqv d e)) H
def Dd (K : Frag) : R2 := fun x y H Q => ∃ d e, Dp K H x d /\ Dp K H y e /\ SeqAt.shaped d = true /\ SeqAt.shaped e = true /\ Q (.bl (!PyData.eqv d e)) H
theorem zC (hu : X.A.units + 64 < cLine) : OpR X (compareOp .Eq) (D3 X.K) := by
 intro pins s σ H x y v u Q I rx ry h
 obtain ⟨d, e, hd, he, sd, se, q⟩ := h
 obtain ⟨as, r1⟩ := Dp.reads I d x v hd rx
 obtain ⟨bs, r2⟩ := Dp.reads I e y u he ry
 exact SeqAt.compareEq_shaped r1 r2 sd se hu ⟨.bl _, H, I, rfl, q⟩
theorem zP (hu : X.A.units + 64 < cLine) : OpR X (compareOp .NotEq) (Dd X.K) := by
 intro pins s σ H x y v u Q I rx ry h
 obtain ⟨d, e, hd, he, sd, se, q⟩ := h
 obtain ⟨as, r1⟩ := Dp.reads I d x v hd rx
 obtain ⟨bs, r2⟩ := Dp.reads I e y u he ry
 exact SeqAt.compareNe_shaped r1 r2 sd se hu ⟨.bl _, H, I, rfl, q⟩
end
end L2
namespace L2
open PySem PySem.Spec PyProof.Rows
abbrev uH (h : Heap) (c : Addr) (v : Option Value) : Prop := h.IsCell c v
def Do (scope sc : Scope) : Scope :=
 { scope with names := scope.names.map fun (n, k) => if (k == .free && sc.kind == .function && sc.names.lookup n == some .cell) then (n, .cell) else (n, k) }
def aY (cells : List (Str × Addr)) : List (Str × NameKind) -> List (Str × Addr) -> List (Str × Addr)
 | [], acc => acc
 | (n, k) :: r, acc => if k == .free then aY cells r ((n, (cells.lookup n).getD 0) :: acc) else aY cells r acc
theorem jy (env : Env) (f : Str × NameKind -> List (Str × Addr) -> Sem (ForInStep (List (Str × Addr))))
  (hf : ∀ n k c, f (n, k) c = if k == .free then (do let a <- cellOf env n; pure (.yield ((n, a) :: c))) else pure (.yield c)) :
  ∀ (names : List (Str × NameKind)) (acc : List (Str × Addr)), (∀ y ∈ names, y.2 = .free -> ∃ c, env.cells.lookup y.1 = some c) -> forIn names acc f = pure (aY env.cells names acc)
 | [], acc, _ => by rw [List.forIn_nil]; rfl
 | (n, k) :: r, acc, h => by
   rw [List.forIn_cons, hf]
   have ih := fun acc => jy env f hf r acc fun y hy => h y (List.mem_cons_of_mem _ hy)
   unfold aY
   by_cases hk : (k == NameKind.free) = true
   ·rw [if_pos hk, if_pos hk]
    obtain ⟨c, hc⟩ := h (n, k) List.mem_cons_self (by simpa using hk)
    have e : cellOf env n = pure c := by unfold cellOf; rw [hc]
    rw [e]
    have e2 : (env.cells.lookup n).getD 0 = c := by rw [hc]; rfl
    rw [e2]
    exact ih _
   ·rw [if_neg hk, if_neg hk]
    exact ih _
theorem rV {scope : Scope} {env : Env} (h : ∀ y ∈ scope.names, y.2 = .free -> ∃ c, env.cells.lookup y.1 = some c) : closureFor scope env = pure (aY env.cells scope.names []) := by
 simp only [closureFor]
 rw [jy env _ (fun n k c => rfl) scope.names [] h]
 rfl
theorem jf {α : Type} : ∀ {l : List (Str × α)} {n : Str} {c : α}, (n, c) ∈ l -> ∃ c', l.lookup n = some c'
 | (k, v) :: r, n, c, h => by
   rw [List.lookup_cons]
   cases hb : n == k with
   | true => exact ⟨_, rfl⟩
   | false =>
     rcases List.mem_cons.mp h with e | h
     ·cases e; simp at hb
     ·exact jf h
theorem dZ {cells : List (Str × Addr)} : ∀ {names : List (Str × NameKind)} {acc : List (Str × Addr)} {n : Str} {c : Addr}, (n, c) ∈ aY cells names acc -> (n, c) ∈ acc ∨ ((n, .free) ∈ names /\ c = (cells.lookup n).getD 0)
 | [], _, _, _, h => .inl h
 | (m, k) :: r, acc, n, c, h => by
   unfold aY at h
   split at h
   ·rename_i hk
    have hk : k = .free := by simpa using hk
    rcases dZ h with h | ⟨h1, h2⟩
    ·rcases List.mem_cons.mp h with e | h
     ·cases e; exact .inr ⟨hk ▸ List.mem_cons_self, rfl⟩
     ·exact .inl h
    ·exact .inr ⟨List.mem_cons_of_mem _ h1, h2⟩
   ·rcases dZ h with h | ⟨h1, h2⟩
    ·exact .inl h
    ·exact .inr ⟨List.mem_cons_of_mem _ h1, h2⟩
theorem ij {cells : List (Str × Addr)} : ∀ {names : List (Str × NameKind)} {acc : List (Str × Addr)} {p : Str × Addr}, p ∈ acc -> p ∈ aY cells names acc
 | [], _, _, h => h
 | (m, k) :: r, acc, p, h => by
   unfold aY
   split
   ·exact ij (List.mem_cons_of_mem _ h)
   ·exact ij h
theorem gw {cells : List (Str × Addr)} : ∀ {names : List (Str × NameKind)} {acc : List (Str × Addr)} {n : Str}, (n, .free) ∈ names -> (n, (cells.lookup n).getD 0) ∈ aY cells names acc
 | (m, k) :: r, acc, n, h => by
   unfold aY
   rcases List.mem_cons.mp h with e | h
   ·cases e
    exact ij List.mem_cons_self
   ·split
    ·exact gw h
    ·exact gw h
theorem eU : ∀ {names : List (Str × NameKind)} {h : Heap} {acc : List (Str × Addr)} {x : Str} {c : Addr}, (x, c) ∈ cellsFrom h.objs.size names acc ->
  (x, c) ∈ acc ∨ ((x, .cell) ∈ names /\ h.objs.size <= c /\ uH (pushCells h names) c none)
 | [], _, _, _, _, h => .inl h
 | (n, k) :: r, h, acc, x, c, hm => by
   unfold cellsFrom at hm
   unfold pushCells
   split at hm
   ·rename_i hk
    rw [if_pos hk]
    have hk : k = .cell := by simpa using hk
    rw [<- Heap.size_push h { cls := .type "cell", data := .cell none }] at hm
    rcases eU hm with hm | ⟨h1, h2, h3⟩
    ·rcases List.mem_cons.mp hm with e | hm
     ·cases e
      exact .inr ⟨hk ▸ List.mem_cons_self, Nat.le_refl _, _, pushCells_keeps r _ _ _ (Heap.get?_push_size _ rfl), rfl⟩
     ·exact .inl hm
    ·rw [Heap.size_push] at h2
     exact .inr ⟨List.mem_cons_of_mem _ h1, Nat.le_of_succ_le h2, h3⟩
   ·rename_i hk
    rw [if_neg hk]
    rcases eU hm with hm | ⟨h1, h2, h3⟩
    ·exact .inl hm
    ·exact .inr ⟨List.mem_cons_of_mem _ h1, h2, h3⟩
theorem ip : ∀ {names : List (Str × NameKind)} {n : Nat} {acc : List (Str × Addr)} {p : Str × Addr}, p ∈ acc -> p ∈ cellsFrom n names acc
 | [], _, _, _, h => h
 | (m, k) :: r, n, acc, p, h => by
   unfold cellsFrom
   split
   ·exact ip (List.mem_cons_of_mem _ h)
   ·exact ip h
theorem km : ∀ {names : List (Str × NameKind)} {n : Nat} {acc : List (Str × Addr)} {x : Str}, (x, .cell) ∈ names -> ∃ c, (x, c) ∈ cellsFrom n names acc
 | (m, k) :: r, n, acc, x, h => by
   unfold cellsFrom
   rcases List.mem_cons.mp h with e | h
   ·cases e
    exact ⟨n, ip List.mem_cons_self⟩
   ·split
    ·exact km h
    ·exact km h
theorem kD : ∀ {names : List (Str × NameKind)} {h : Heap} {acc : List (Str × Addr)} {x y : Str} {c : Addr}, (∀ p ∈ acc, p.2 < h.objs.size) -> (∀ x y c, (x, c) ∈ acc -> (y, c) ∈ acc -> x = y) ->
  (x, c) ∈ cellsFrom h.objs.size names acc -> (y, c) ∈ cellsFrom h.objs.size names acc -> x = y
 | [], _, _, _, _, _, _, hi, h1, h2 => hi _ _ _ h1 h2
 | (n, k) :: r, h, acc, x, y, c, hl, hi, h1, h2 => by
   unfold cellsFrom at h1 h2
   split at h1
   ·rename_i hk
    rw [if_pos hk] at h2
    rw [<- Heap.size_push h { cls := .type "cell", data := .cell none }] at h1 h2
    refine kD (h := h.push _) (fun p hp => ?_) (fun x y c a b => ?_) h1 h2
    ·rw [Heap.size_push]
     rcases List.mem_cons.mp hp with rfl | hp
     ·exact Nat.lt_succ_self _
     ·exact Nat.lt_succ_of_lt (hl p hp)
    ·rcases List.mem_cons.mp a with e | a <;> rcases List.mem_cons.mp b with e' | b
     ·cases e; cases e'; rfl
     ·cases e; exact absurd (hl _ b) (Nat.lt_irrefl _)
     ·cases e'; exact absurd (hl _ a) (Nat.lt_irrefl _)
     ·exact hi _ _ _ a b
   ·rename_i hk
    rw [if_neg hk] at h2
    exact kD hl hi h1 h2
theorem rA {M : Model} {A : Around} {E : Value -> Shared -> Prop} {s : Shared} {scope : Scope} {globals : Addr} {closure : List (Str × Addr)} {qual : Str} {func : Option Addr} {code : Value} {around : Env} {builtins : Addr} {Q : Env -> Shared -> Prop}
  (h : Q (newEnv scope s.heap.objs.size globals (cellsFrom (s.heap.objs.size + 1) scope.names closure) qual func code (some around) builtins)
   { s with heap := pushCells (s.heap.push { cls := .type "dict", data := .dict #[] }) scope.names }) :
  wpAny M A (newFunctionEnv scope globals closure [] qual func code (some around) builtins) Q E s := by
 simp only [newFunctionEnv, Option.isSome_some, if_true]
 refine wpAny_bind (wpAny_alloc ?_)
 refine wpAny_bind (wpAny_layCells _ (fun n k c => rfl) scope.names closure _ _ ?_)
 rw [show ({ s with heap := s.heap.push { cls := .type "dict", data := .dict #[] } } : Shared).heap.objs.size = s.heap.objs.size + 1 from Heap.size_push ..]
 rw [List.forIn_nil]
 exact wpAny_bind (wpAny_pure (wpAny_pure h))
theorem gn {sc : Scope} : ∀ {names : List (Str × NameKind)} {x : Str} {k : NameKind},
  (names.map fun (n, k) => if (k == NameKind.free && sc.kind == .function && sc.names.lookup n == some .cell) then (n, NameKind.cell) else (n, k)).lookup x = some k ->
  ∃ k', names.lookup x = some k' /\ (k = k' ∨ (k' = .free /\ k = .cell))
 | [], _, _, h => by simp at h
 | (n, k₀) :: r, x, k, h => by
   have ih := @gn sc r x k
   have h' : List.lookup x ((if (k₀ == NameKind.free && sc.kind == .function && sc.names.lookup n == some .cell) = true then (n, NameKind.cell) else (n, k₀)) :: (r.map _)) = some k := h
   cases hx : x == n with
   | true =>
     simp only [List.lookup_cons, hx]
     by_cases hc : (k₀ == NameKind.free && sc.kind == .function && sc.names.lookup n == some .cell) = true
     ·rw [if_pos hc] at h'
      simp only [List.lookup_cons, hx] at h'
      cases h'
      simp only [Bool.and_eq_true, beq_iff_eq] at hc
      exact ⟨k₀, rfl, .inr ⟨hc.1.1, rfl⟩⟩
     ·rw [if_neg hc] at h'
      simp only [List.lookup_cons, hx] at h'
      cases h'
      exact ⟨_, rfl, .inl rfl⟩
   | false =>
     simp only [List.lookup_cons, hx]
     by_cases hc : (k₀ == NameKind.free && sc.kind == .function && sc.names.lookup n == some .cell) = true
     ·rw [if_pos hc] at h'
      simp only [List.lookup_cons, hx] at h'
      exact ih h'
     ·rw [if_neg hc] at h'
      simp only [List.lookup_cons, hx] at h'
      exact ih h'
structure tH (N : List Str) (sc scope : Scope) (own : List (Str × Nat)) : Prop where
 kind : scope.kind = .function
 uniq : ∀ y ∈ scope.names, scope.names.lookup y.1 = some y.2
 ix : ∀ p ∈ own, N[p.2]? = some p.1
 free : ∀ y ∈ scope.names, y.2 = .free -> sc.names.lookup y.1 = some .cell ∨ sc.names.lookup y.1 = some .free
 own : ∀ y ∈ scope.names, y.2 = .local ∨ y.2 = .cell -> y.1 ∈ own.map (·.1) ∨ y.1 ∉ N
def kJ (σ : St) : List Nat -> St
 | [] => σ
 | v :: vs => (kJ σ vs).set v none
theorem gr (σ : St) : ∀ vs : List Nat, (kJ σ vs).length = σ.length
 | [] => rfl
 | v :: vs => by unfold kJ; rw [List.length_set, gr σ vs]
theorem ko {σ : St} {i : Nat} {x : V} : ∀ {vs : List Nat}, (kJ σ vs)[i]? = some (some x) -> σ[i]? = some (some x) /\ i ∉ vs
 | [], h => ⟨h, by simp⟩
 | v :: vs, h => by
   unfold kJ at h
   by_cases hi : v = i
   ·subst hi
    by_cases hv : v < (kJ σ vs).length
    ·rw [List.getElem?_set_self hv] at h; cases h
    ·rw [List.getElem?_eq_none (by simpa using hv)] at h; cases h
   ·rw [List.getElem?_set_ne hi] at h
    obtain ⟨h1, h2⟩ := ko h
    exact ⟨h1, by simp only [List.mem_cons, not_or]; exact ⟨fun e => hi e.symm, h2⟩⟩
abbrev Cx.blk (X : Cx) (s : Shared) (H : Hp) (scope : Scope) (cenv : Env) (fp : List Addr) : Cx := { X with s_0 := s, H_0 := H, env := cenv, outer := X.stack, ex := fp, fn := fun x => scope.names.lookup x == some .cell, pn := [], xe := fun _ _ => False }
section
variable {X : Cx} {pins : List (Addr × Obj)} {σ : St} {H : Hp} {s : Shared}
theorem qY {scope : Scope} {own : List (Str × Nat)} {fp : List Addr} (I : Inv X pins σ H s) (ok : tH X.N X.env.scope scope own) (hN : X.N.Nodup) (hfp : ∀ b ∈ fp, lq X pins H b /\ b < s.heap.objs.size) :
  Inv (X.blk s H scope (compEnvC scope (cellsFrom (s.heap.objs.size + 1) scope.names (aY X.env.cells scope.names [])) s.heap.objs.size X.env) fp) [] (kJ σ (own.map (·.2))) H { s with heap := pushCells (s.heap.push { cls := .type "dict", data := .dict #[] }) scope.names } := by
 have hfree : ∀ y ∈ scope.names, y.2 = .free -> ∃ c, X.env.cells.lookup y.1 = some c := fun y hy e => by
  rcases ok.free y hy e with k | k
  ·exact I.ok.has _ (.inl k)
  ·exact I.ok.has _ (.inr k)
 generalize hcenv : compEnvC scope (cellsFrom (s.heap.objs.size + 1) scope.names (aY X.env.cells scope.names [])) s.heap.objs.size X.env = cenv
 have kp : ∀ b o, s.heap.get? b = some o -> (pushCells (s.heap.push { cls := .type "dict", data := .dict #[] }) scope.names).get? b = some o := fun b o e => pushCells_keeps _ _ _ _ (Heap.get?_push_of_some _ e)
 have hL : cenv.locals = s.heap.objs.size := by rw [<- hcenv]; rfl
 have hcl : cenv.cells = cellsFrom (s.heap.objs.size + 1) scope.names (aY X.env.cells scope.names []) := by rw [<- hcenv]; rfl
 have hsc : cenv.scope = Do scope X.env.scope := by rw [<- hcenv]; rfl
 rw [<- Heap.size_push s.heap { cls := .type "dict", data := .dict #[] }] at hcl
 have cm : ∀ {y c}, (y, c) ∈ aY X.env.cells scope.names [] -> X.env.cells.lookup y = some c /\ c < s.heap.objs.size := fun {y c} hm => by
  rcases dZ hm with hm | ⟨h1, rfl⟩
  ·cases hm
  ·obtain ⟨c, hc⟩ := hfree _ h1 rfl
   rw [hc]
   obtain ⟨w, z⟩ := I.cell _ _ hc
   exact ⟨rfl, z.lt⟩
 have mem : ∀ {y c}, cenv.cells.lookup y = some c -> (X.env.cells.lookup y = some c /\ c < s.heap.objs.size) ∨ (s.heap.objs.size + 1 <= c /\ uH (pushCells (s.heap.push { cls := .type "dict", data := .dict #[] }) scope.names) c none) := fun {y c} e => by
  rw [hcl] at e
  rcases eU (PySem.mem_of_lookup e) with hm | ⟨_, h2, h3⟩
  ·exact .inl (cm hm)
  ·rw [Heap.size_push] at h2; exact .inr ⟨h2, h3⟩
 have look : ∀ {y}, scope.names.lookup y = some .free -> ∃ c, cenv.cells.lookup y = some c /\ X.env.cells.lookup y = some c := fun {y} hl => by
  have hy : (y, NameKind.free) ∈ scope.names := PySem.mem_of_lookup hl
  obtain ⟨c', e'⟩ := jf (ip (names := scope.names) (n := (s.heap.push { cls := .type "dict", data := .dict #[] }).objs.size) (gw (cells := X.env.cells) (acc := []) hy))
  rw [<- hcl] at e'
  refine ⟨c', e', ?_⟩
  rw [hcl] at e'
  rcases eU (PySem.mem_of_lookup e') with hm | ⟨h1, _, _⟩
  ·exact (cm hm).1
  ·have := ok.uniq _ h1
   rw [hl] at this; cases this
 have okB : (X.blk s H scope cenv fp).Ok := by
  refine ⟨I.ok.mod, by show cenv.scope.kind = _; rw [hsc]; exact ok.kind, by show cenv.globals = _; rw [<- hcenv]; exact I.ok.glob, by show cenv.builtins = _; rw [<- hcenv]; exact I.ok.blt, by show s.heap.objs.size <= cenv.locals; rw [hL]; exact Nat.le_refl _,
   fun y z c e1 e2 => ?_, fun y hy => ?_, fun y c z e => ?_, I.ok.hd, I.ok.frames, .inl rfl, fun b hb => ⟨?_, fun y c e z => ?_⟩, I.bs, Nat.le_trans I.ok.bsz I.sz, fun b o e hb => ?_, fun b hb z => ?_, I.stack, I.stkFree⟩
  ·have e1 : cenv.cells.lookup y = some c := e1
   have e2 : cenv.cells.lookup z = some c := e2
   rw [hcl] at e1 e2
   refine kD (fun p hp => ?_) (fun y z c a b => I.ok.inj y z c (cm a).1 (cm b).1) (PySem.mem_of_lookup e1) (PySem.mem_of_lookup e2)
   rw [Heap.size_push]
   exact Nat.lt_succ_of_lt (cm (y := p.1) (c := p.2) hp).2
  ·show ∃ c, cenv.cells.lookup y = some c
   have key : ∀ k, cenv.kindOf y = some k -> (k = .cell ∨ k = .free) -> ∃ c, cenv.cells.lookup y = some c := fun k hk hk' => by
    unfold Env.kindOf at hk
    rw [hsc] at hk
    obtain ⟨k', e, r⟩ := gn hk
    have : k' = .cell ∨ k' = .free := by
     rcases r with rfl | ⟨rfl, _⟩
     ·exact hk'
     ·exact .inr rfl
    rcases this with rfl | rfl
    ·obtain ⟨c, hm⟩ := km (n := (s.heap.push { cls := .type "dict", data := .dict #[] }).objs.size) (acc := aY X.env.cells scope.names []) (PySem.mem_of_lookup e)
     obtain ⟨c', e'⟩ := jf hm
     exact ⟨c', by rw [hcl]; exact e'⟩
    ·obtain ⟨c, h1, _⟩ := look e
     exact ⟨c, h1⟩
   rcases hy with hy | hy
   ·exact key _ hy (.inl rfl)
   ·exact key _ hy (.inr rfl)
  ·have z : (scope.names.lookup y == some NameKind.cell) = true := z
   have z : scope.names.lookup y = some .cell := by simpa using z
   have e : cenv.cells.lookup y = some c := e
   rw [hcl] at e
   rcases eU (PySem.mem_of_lookup e) with hm | ⟨_, h2, _⟩
   ·rcases dZ hm with hm | ⟨h1, _⟩
    ·cases hm
    ·have q := ok.uniq _ h1
     rw [z] at q; cases q
   ·rw [Heap.size_push] at h2
    exact Nat.le_of_succ_le h2
  ·show b ≠ cenv.locals
   rw [hL]; exact Nat.ne_of_lt (hfp b hb).2
  ·have e : cenv.cells.lookup y = some c := e
   rcases mem e with ⟨h1, _⟩ | ⟨h1, _⟩
   ·exact (hfp b hb).1.2.2.2.2.1 y c h1 z
   ·have h2 : s.heap.objs.size + 1 <= b := by rw [<- z]; exact h1
    exact absurd (Nat.lt_of_lt_of_le (hfp b hb).2 (Nat.le_of_succ_le h2)) (Nat.lt_irrefl _)
  ·rcases (hfp b hb).1.2.2.2.1 with z | z
   ·exact I.ok.noex b o e z
   ·exact absurd (Nat.lt_of_lt_of_le (Heap.lt_size e) (Nat.le_trans I.ok.bsz z)) (Nat.lt_irrefl _)
  ·rcases List.mem_cons.mp (I.stkSub b z) with z | z
   ·exact (hfp b hb).1.2.1 z
   ·exact (hfp b hb).1.2.2.1 z
 refine ⟨okB, rfl, I.bare, Un.kept kp, ⟨fun _ => none, ?_, fun i y av e1 e2 e3 => ?_⟩, fun y c e => ?_, ?_, fun y c e => ?_, fun p hp => ?_, I.hok.kept kp, by rw [gr]; exact I.len⟩
 ·show Heap.Ns _ cenv.locals _
  rw [hL]
  exact Heap.Ns.keeps (Heap.Ns.new ..) fun b o e => pushCells_keeps _ _ _ _ e
 ·obtain ⟨e2, hne⟩ := ko e2
  have hfr : scope.names.lookup y = some .free /\ (cenv.kindOf y = some .cell ∨ cenv.kindOf y = some .free) := by
   have key : ∀ k, cenv.scope.names.lookup y = some k -> k = .local ∨ k = .cell ∨ k = .free -> scope.names.lookup y = some .free /\ (cenv.kindOf y = some .cell ∨ cenv.kindOf y = some .free) := fun k hk hk' => by
    have hk0 := hk
    rw [hsc] at hk
    obtain ⟨k', e, r⟩ := gn hk
    have no : ¬ (k' = .local ∨ k' = .cell) := fun hh => by
     rcases ok.own _ (PySem.mem_of_lookup e) hh with e' | e'
     ·obtain ⟨p, hp, hpy⟩ := List.mem_map.mp e'
      have e3 := ok.ix p hp
      have : p.1 = y := hpy
      rw [this] at e3
      exact hne (List.mem_map.mpr ⟨p, hp, nq hN e3 e1⟩)
     ·exact e' (List.mem_of_getElem? e1)
    rcases r with rfl | ⟨rfl, rfl⟩
    ·rcases hk' with rfl | rfl | rfl
     ·exact absurd (.inl rfl) no
     ·exact absurd (.inr rfl) no
     ·exact ⟨e, .inr hk0⟩
    ·exact ⟨e, .inl hk0⟩
   have e3 : Vis cenv.scope y := e3
   rcases e3 with e3 | e3 | e3
   ·exact key _ e3 (.inl rfl)
   ·exact key _ e3 (.inr (.inl rfl))
   ·exact key _ e3 (.inr (.inr rfl))
  obtain ⟨m, hn, hl⟩ := I.loc
  have hvis : Vis X.env.scope y := (ok.free _ (PySem.mem_of_lookup hfr.1) rfl).elim (fun k => .inr (.inl k)) (fun k => .inr (.inr k))
  obtain ⟨w, r, q⟩ := hl i y av e1 e2 hvis
  refine ⟨w, r, .inr ⟨hfr.2, ?_⟩⟩
  obtain ⟨c, h1, h2⟩ := look hfr.1
  rcases q with ⟨k, _⟩ | ⟨_, c', e', z⟩
  ·have k : X.env.scope.names.lookup y = some .local := k
   rcases ok.free _ (PySem.mem_of_lookup hfr.1) rfl with k' | k' <;> rw [show X.env.scope.names.lookup y = _ from k'] at k <;> cases k
  ·rw [h2] at e'; cases e'
   exact ⟨c, h1, z.keeps kp⟩
 ·have e : cenv.cells.lookup y = some c := e
  rcases mem e with ⟨h1, _⟩ | ⟨_, z⟩
  ·obtain ⟨w, z⟩ := I.cell y c h1
   exact ⟨w, z.keeps kp⟩
  ·exact ⟨_, z⟩
 ·show H cenv.locals = none
  rw [hL]; exact I.hok.fresh (Nat.le_refl _)
 ·have e : cenv.cells.lookup y = some c := e
  rcases mem e with ⟨h1, _⟩ | ⟨h1, _⟩
  ·exact I.freeC y c h1
  ·exact I.hok.fresh (Nat.le_of_succ_le h1)
 ·exact absurd (show p ∈ ([] : List (Addr × Obj)) ++ [] from hp) (by simp)
theorem yJ {E : Value -> Shared -> Prop} {D : Addr} {xs : List V} {y : V} {v : Value} {Q : Value -> Shared -> Prop} (I : Inv X pins σ H s) (hD : H D = some (.lst xs)) (hz : xs.length < sizeLine) (r : RelV y v)
  (h : ∀ s', Inv X pins σ (upd H D (.lst (xs ++ [y]))) s' -> Q .none s') : wpAny (model X.prog X.w) X.A (call (.builtin "list.append") [.ref D, v]) Q E s := by
 obtain ⟨hz', its, n, ri, e⟩ := I.hok D _ hD
 have hl := ri.length
 refine append_at (hsz := by rw [List.size_toArray]; omega) e fun h' sb ho' => ?_
 refine h { s with heap := h' } (I.write (t' := s.toks) (by rw [hD]; trivial) (.inl rfl) (fun b u hb q => (sb.2 b hb).trans q) ⟨_, ho'⟩ ⟨by rw [List.length_append]; exact hz, its ++ [v], n + 1, ri.append (.cons r .nil), ?_⟩)
 rw [ho']
 simp
def PTs (X : Cx) (ifs : List Expr) (t : TT) : Prop :=
 ∀ (pins : List (Addr × Obj)) (s : Shared) (σ : St) (H : Hp) (Q : Bool -> Hp -> Prop), Inv X pins σ H s -> t σ H Q ->
   wpAny (model X.prog X.w) X.A (forIn ifs true fun c r => if r = true then do let ok <- isTrue c X.env (eval c X.env); pure (ForInStep.yield ok) else pure (ForInStep.yield r)) (TP X pins σ Q) X.xe s
def Dm : TT := fun _ H Q => Q true H
theorem sW : PTs X [] Dm := fun _ _ _ H _ I h => wpAny_tests_nil ⟨H, I, h⟩
theorem xr {c : Expr} {t : TT} (h : PT X c t) : PTs X [c] t := fun pins s σ H Q I hw => wpAny_tests_one (h pins s σ H Q I hw)
end
theorem ud {α : Type} {t : Sem α} {Q Q' : α -> Shared -> Prop} {M : Model} {A : Around} {E : Value -> Shared -> Prop} {s : Shared} (h : wpAny M A t Q (fun _ _ => False) s) (hQ : ∀ a s, Q a s -> Q' a s) : wpAny M A t Q' E s := wpAny_mono h hQ fun _ _ z => False.elim z
theorem p7 {prog : Program} {w : World} {A : Around} {R : Result -> Shared -> Prop} {s : Shared} {elt target iter : Expr} {ifs : List Expr} {scope : Scope} {pos : Pos} {it acc : Value} {env : Env} (I : Nat -> Shared -> Prop)
  (turn : ∀ n s, I n s -> wpAny (model prog w) A (pyNext it) (fun r s₁ => match r with
   | none => R (.ok .next) s₁
   | some v => wpAny (model prog w) A (letOwnedTupleGo target it v) (fun _ s₁' => wpAny (model prog w) A (assign target env v) (fun _ s₂ =>
     wpAny (model prog w) A (forIn ifs true fun c r => if r = true then do let ok <- isTrue c env (eval c env); pure (ForInStep.yield ok) else pure (ForInStep.yield r)) (fun ok s₃ =>
      if ok = true then wpAny (model prog w) A (eval elt env) (fun x s₄ =>
       wpAny (model prog w) A (call (.builtin "list.append") [acc, x]) (fun _ s₅ => ∃ m, m < n /\ I m s₅) (notedBy (model prog w) A env fun e s' => R (.error e) s') s₄) (notedBy (model prog w) A env fun e s' => R (.error e) s') s₃
      else ∃ m, m < n /\ I m s₃) (notedBy (model prog w) A env fun e s' => R (.error e) s') s₂) (notedBy (model prog w) A env fun e s' => R (.error e) s') s₁') (notedBy (model prog w) A env fun e s' => R (.error e) s') s₁) (notedBy (model prog w) A env fun e s' => R (.error e) s') s)
  (n : Nat) (h : I n s) :
  codeAny (model prog w) A (.compLoop (.ListComp elt [⟨target, iter, ifs, 0⟩] scope pos) 0 it acc env) R s := by
 refine codeAny_loop rfl I (fun n s hI => ?_) n h
 show wpAny _ A ((compTurn (.ListComp elt [⟨target, iter, ifs, 0⟩] scope pos) 0 it acc env).onRaise (fun x => do noteFrame x env; theTreesLotGoes x)) _ _ s
 refine wpAny_noted ?_
 rw [compTurn_list]
 refine wpAny_bind (wpAny_standAt (wpAny_bind (wpAny_mono (turn n s hI) (fun r s₁ h₁ => ?_) fun _ _ h' => h')))
 cases r with
 | none => exact wpAny_pure h₁
 | some v =>
   refine wpAny_bind (wpAny_mono h₁ (fun _ s₁' h₁' => ?_) fun _ _ h' => h')
   refine wpAny_bind (wpAny_mono h₁' (fun _ s₂ h₂ => wpAny_bind (wpAny_mono h₂ (fun ok s₃ h₃ => ?_) fun _ _ h' => h')) fun _ _ h' => h')
   cases ok with
   | false => exact wpAny_pure ⟨rfl, h₃⟩
   | true =>
     exact wpAny_bind (wpAny_bind (wpAny_mono h₃ (fun x s₄ h₄ => wpAny_bind (wpAny_mono h₄ (fun _ s₅ h₅ => wpAny_pure (wpAny_pure ⟨rfl, h₅⟩)) fun _ _ h' => h')) fun _ _ h' => h'))
section
variable {X : Cx}
def tLc (wi : TI) (g : TG) (tt : TT) (te : TE) (vs : List Nat) : TE := fun σ H Q => wi σ H fun J H1 => ∀ D, H1 D = none -> ∃ W : Nat -> Nat -> Hp -> Prop, (∃ m, W 0 m (upd H1 D (.lst []))) /\ ∀ i m H, W i m H ->
 (J.stop i H /\ Q (.ref D) H) ∨ (J.go i H /\ ∃ Nx : Hp -> Prop, (∀ H', Nx H' -> ∃ m', m' < m /\ W (i + 1) m' H') /\ ∀ x H', J.yld i H x H' -> g x (kJ σ vs) H' fun σ2 H2 => kJ σ2 vs = kJ σ vs /\ tt σ2 H2 fun b H3 =>
  if b = true then te σ2 H3 fun y H4 => ∃ acc, H4 D = some (.lst acc) /\ acc.length < sizeLine /\ Nx (upd H4 D (.lst (acc ++ [y]))) else Nx H3)
theorem wD {pins : List (Addr × Obj)} {s : Shared} {σ : St} {H : Hp} {Q : VK} {elt tg iter : Expr} {ifs : List Expr} {scope : Scope} {own : List (Str × Nat)} {pos pos' : Pos} {wi : TI} {g : TG} {tt : TT} {te : TE} {use : Option (Value -> Sem Unit)} {Qf : Value -> Shared -> Prop}
  (hc : X.calm = true) (hN : X.N.Nodup) (I : Inv X pins σ H s) (hi : PI X tg iter wi) (ok : tH X.N X.env.scope scope own)
  (hg : ∀ (s : Shared) (H : Hp) (C : Addr) (cl : List (Str × Addr)) (fp : List Addr), PG (X.blk s H scope (compEnvC scope cl C X.env) fp) tg g) (ht : ∀ (s : Shared) (H : Hp) (C : Addr) (cl : List (Str × Addr)) (fp : List Addr), PTs (X.blk s H scope (compEnvC scope cl C X.env) fp) ifs tt)
  (he : ∀ (s : Shared) (H : Hp) (C : Addr) (cl : List (Str × Addr)) (fp : List Addr), PE (X.blk s H scope (compEnvC scope cl C X.env) fp) elt te) (hs : ∀ x, foldedSetIterable iter X.env x = pure x)
  (h : tLc wi g tt te (own.map (·.2)) σ H Q)
  (hRR : ∀ D C s' m H', Inv X pins σ H' s' -> Q (.ref D) H' -> s'.heap.Ns C m -> lq X pins H' C -> compPost (model X.prog X.w) X.A X.xe use Qf (.ref D) C (.ok .next) s') :
  wpAny (model X.prog X.w) X.A (comprehension (.ListComp elt [⟨tg, iter, ifs, 0⟩] scope pos) scope X.env pos' (newList []) false (eval iter X.env) use) Qf X.xe s := by
 have hfree : ∀ y ∈ scope.names, y.2 = .free -> ∃ c, X.env.cells.lookup y.1 = some c := fun y hy e => by
  rcases ok.free y hy e with k | k
  ·exact I.ok.has _ (.inl k)
  ·exact I.ok.has _ (.inr k)
 refine wpAny_comprehension_free (use := use) rfl hs (rV hfree) ok.kind (fun y hy e => by rw [ok.uniq y hy, e])
  (thn (hi pins s σ H _ I h) fun xv s1 hx => thn hx fun itv s2 h2 => ?_)
 obtain ⟨it, fp, tn, J, H2, e, I2, T, st2, f2, q⟩ := h2
 subst e
 refine wpAny_newObj_type (rA ?_) (by show 0 <= sizeLine; decide)
 generalize hD : s2.heap.objs.size = D
 have hDn : H2 D = none := I2.hok.fresh (Nat.le_of_eq hD)
 obtain ⟨W, ⟨m0, w0⟩, turn⟩ := q D hDn
 generalize hs3 : ({ s2 with heap := s2.heap.push { cls := .type "list", data := .seq ([] : List Value).toArray } } : Shared) = s3
 have I3 : Inv X pins σ (upd H2 D (.lst [])) s3 := by
  rw [<- hs3]
  refine I2.laid (t' := s2.toks) (fun b o e => Heap.get?_push_of_some _ e) (Nat.le_of_eq hD) ⟨Nat.zero_le _, [], 0, .nil, ?_⟩
  rw [<- hD]
  exact Heap.get?_push_size _ rfl
 have h3 : s3.heap = s2.heap.push { cls := .type "list", data := .seq ([] : List Value).toArray } := by rw [<- hs3]
 have sz : ∀ b ∈ fp, b < s2.heap.objs.size := fun b hb => by
  obtain ⟨o, e, _⟩ := T.obj _ _ st2 b hb
  exact Heap.lt_size e
 have f3 : ∀ b ∈ fp, lq X pins (upd H2 D (.lst [])) b /\ b < s3.heap.objs.size := fun b hb => by
  have hlt := sz b hb
  refine ⟨⟨?_, (f2 b hb).2⟩, by rw [h3, Heap.size_push]; exact Nat.lt_succ_of_lt hlt⟩
  rw [al (by rw [<- hD]; exact Nat.ne_of_lt hlt)]
  exact (f2 b hb).1
 have st3 : tn 0 s3.heap := T.keep _ _ _ st2 fun b _ o e => by rw [h3]; exact Heap.get?_push_of_some _ e
 have I4 := qY I3 ok hN f3
 have pg := hg s3 (upd H2 D (.lst [])) s3.heap.objs.size (cellsFrom (s3.heap.objs.size + 1) scope.names (aY X.env.cells scope.names [])) fp
 have pt := ht s3 (upd H2 D (.lst [])) s3.heap.objs.size (cellsFrom (s3.heap.objs.size + 1) scope.names (aY X.env.cells scope.names [])) fp
 have pe := he s3 (upd H2 D (.lst [])) s3.heap.objs.size (cellsFrom (s3.heap.objs.size + 1) scope.names (aY X.env.cells scope.names [])) fp
 show codeAny _ _ (.compStart (.ListComp elt [⟨tg, iter, ifs, 0⟩] scope pos) 0 (.ref it) (.ref D) (compEnvC scope (cellsFrom (s3.heap.objs.size + 1) scope.names (aY X.env.cells scope.names [])) s3.heap.objs.size X.env)) (compPost (model X.prog X.w) X.A X.xe use Qf (.ref D) s3.heap.objs.size) { s3 with heap := pushCells (s3.heap.push { cls := .type "dict", data := .dict #[] }) scope.names }
 have nfp : ∀ b ∈ fp, (upd H2 D (.lst [])) b = none := fun b hb => (f3 b hb).1.1
 generalize hce : compEnvC scope (cellsFrom (s3.heap.objs.size + 1) scope.names (aY X.env.cells scope.names [])) s3.heap.objs.size X.env = ce at I4 pg pt pe ⊢
 have cL : ce.locals = s3.heap.objs.size := by subst hce; rfl
 generalize hH3 : upd H2 D (.lst []) = H3 at I3 I4 pg pt pe w0 nfp f3
 generalize hs4 : ({ s3 with heap := pushCells (s3.heap.push { cls := .type "dict", data := .dict #[] }) scope.names } : Shared) = s4 at I4 ⊢
 have st4 : tn 0 s4.heap := T.keep _ _ _ st3 fun b _ o e => by rw [<- hs4]; exact pushCells_keeps _ _ _ _ (Heap.get?_push_of_some _ e)
 have stat : ∀ {σ' : St} {H' : Hp} {s' : Shared}, Inv (X.blk s3 H3 scope ce fp) [] σ' H' s' -> (∀ b ∈ fp, H' b = none) -> ∀ b ∈ fp, lq (X.blk s3 H3 scope ce fp) [] H' b := fun {σ' H' s'} I' hn b hb =>
  ⟨hn b hb, (I'.ok.exf b hb).1, I'.ok.exfs b hb, .inl hb, fun x c e => (I'.ok.exf b hb).2 x c e, fun p hp => absurd (show p ∈ ([] : List (Addr × Obj)) ++ [] from hp) (by simp)⟩
 have loop : codeAny (model X.prog X.w) X.A (.compLoop (.ListComp elt [⟨tg, iter, ifs, 0⟩] scope pos) 0 (.ref it) (.ref D) ce) (compPost (model X.prog X.w) X.A X.xe use Qf (.ref D) s3.heap.objs.size) s4 := by
  refine p7 (fun n s' => ∃ i H', Inv (X.blk s3 H3 scope ce fp) [] (kJ σ (own.map (·.2))) H' s' /\ tn i s'.heap /\ (∀ b ∈ fp, H' b = none) /\ W i n H') ?_ m0 ⟨0, H3, I4, st4, nfp, w0⟩
  rintro n s5 ⟨i, H5, I5, st5, n5, w5⟩
  rcases turn i n H5 w5 with ⟨stop, qq⟩ | ⟨go, Nx, hNx, step⟩
  ·have td := T.done (X.blk s3 H3 scope ce fp) rfl rfl rfl hc i [] s5 _ H5 (fun _ _ => False) I5 (stat I5 n5) st5 stop
   refine ud td fun r s6 ⟨hr, I6⟩ => ?_
   subst hr
   have I7 : Inv X pins σ H5 s6 := I3.call' (ch := fp) I6.os I6.base I6.hok I6.bare fun b hb => ⟨(f3 b hb).1.2.2.2.1, (f3 b hb).1.2.1, (f3 b hb).1.2.2.2.2.1, (f3 b hb).1.2.2.2.2.2⟩
   have nC : H5 s3.heap.objs.size = none := by
    have z : H5 ce.locals = none := I6.free
    rw [cL] at z
    exact z
   obtain ⟨m, hn, _⟩ := I6.loc
   have hn : s6.heap.Ns ce.locals m := hn
   rw [cL] at hn
   exact hRR D s3.heap.objs.size s6 m H5 I7 qq hn (I3.fpOk (Nat.le_refl _) nC)
  ·have ti := T.item (X.blk s3 H3 scope ce fp) rfl rfl rfl hc i [] s5 _ H5 (fun _ _ => False) I5 (stat I5 n5) st5 go
   refine ud ti fun r s6 ⟨u, hr, h6⟩ => ?_
   subst hr
   refine ud h6 fun _ s7 ⟨x, H7, I7, r7, y7, st7, n7⟩ => ?_
   have I7' := I7.pinned (stat I7 n7) (T.obj _ _ st7)
   refine ud (pg _ s7 _ H7 x u _ I7' r7 (step x H7 y7)) fun _ s8 ⟨σ8, H8, I8, hw8, q8⟩ => ?_
   refine ud (pt _ s8 σ8 H8 _ I8 q8) fun b s9 ⟨H9, I9, q9⟩ => ?_
   have fin : ∀ {s' : Shared} {H' : Hp}, Inv (X.blk s3 H3 scope ce fp) ([] ++ md fp s7.heap) σ8 H' s' -> Nx H' -> ∃ m, m < n /\ ∃ i H', Inv (X.blk s3 H3 scope ce fp) [] (kJ σ (own.map (·.2))) H' s' /\ tn i s'.heap /\ (∀ b ∈ fp, H' b = none) /\ W i m H' := fun {s' H'} I' nx => by
    obtain ⟨m', hm, w'⟩ := hNx H' nx
    have pin' : ∀ b ∈ fp, ∀ o, s7.heap.get? b = some o -> s'.heap.get? b = some o /\ H' b = none := fun b hb o e =>
     let z := I'.pin (b, o) (List.mem_append_right _ (List.mem_append_right _ (jb hb e)))
     ⟨z.1, z.2.1⟩
    have hl : (kJ σ (own.map (·.2))).length = σ8.length := by rw [<- hw8, gr]
    refine ⟨m', hm, i + 1, H', (I'.unpinned (pins := [])).weak hl (fun j v e => ?_), T.keep _ _ _ st7 fun b hb o e => (pin' b hb o e).1, fun b hb => ?_, w'⟩
    ·rw [<- hw8] at e
     exact (ko e).1
    ·obtain ⟨o, e, _⟩ := T.obj _ _ st7 b hb
     exact (pin' b hb o e).2
   cases b with
   | false =>
     simp only [Bool.false_eq_true, if_false] at q9 ⊢
     exact fin I9 q9
   | true =>
     simp only [if_true] at q9 ⊢
     refine ud (pe _ s9 σ8 H9 _ I9 q9) fun z s10 ⟨yv, H10, I10, r10, acc, hD10, hz10, nx⟩ => ?_
     exact yJ (X := X.blk s3 H3 scope ce fp) I10 hD10 hz10 r10 fun s11 I11 => fin I11 nx
 exact codeAny_compStart_list loop (T.self X.A 0 _ _ _ st4 loop)
theorem vH {elt tg iter : Expr} {ifs : List Expr} {scope : Scope} {own : List (Str × Nat)} {pos : Pos} {wi : TI} {g : TG} {tt : TT} {te : TE} (hc : X.calm = true) (hN : X.N.Nodup) (hi : PI X tg iter wi) (ok : tH X.N X.env.scope scope own)
  (hg : ∀ (s : Shared) (H : Hp) (C : Addr) (cl : List (Str × Addr)) (fp : List Addr), PG (X.blk s H scope (compEnvC scope cl C X.env) fp) tg g) (ht : ∀ (s : Shared) (H : Hp) (C : Addr) (cl : List (Str × Addr)) (fp : List Addr), PTs (X.blk s H scope (compEnvC scope cl C X.env) fp) ifs tt)
  (he : ∀ (s : Shared) (H : Hp) (C : Addr) (cl : List (Str × Addr)) (fp : List Addr), PE (X.blk s H scope (compEnvC scope cl C X.env) fp) elt te) (hs : ∀ x, foldedSetIterable iter X.env x = pure x := by intro _; rfl) :
  PE X (.ListComp elt [⟨tg, iter, ifs, 0⟩] scope pos) (tLc wi g tt te (own.map (·.2))) := by
 intro pins s σ H Q I h
 rw [eval_ListComp]
 refine wD hc hN I hi ok hg ht he hs h fun D C s' m H' I' q hn f => ⟨m, hn, fun h'' sb => ?_⟩
 obtain ⟨f0, f1, f2, f3, f4, f5⟩ := f
 exact ⟨.ref D, H', I'.turned (t' := s'.toks) (fun b o hb e => (sb.2 b hb).trans e) f0 f1 f3 f4 f5, rfl, q⟩
end
def Ci (N : List Str) (sc scope : Scope) (own : List (Str × Nat)) : Bool :=
 (match scope.kind with | .function => true | _ => false) && (scope.names.all fun y => decide (scope.names.lookup y.1 = some y.2)) && (own.all fun p => decide (N[p.2]? = some p.1)) &&
  (scope.names.all fun y => match y.2 with
   | .free => (match sc.names.lookup y.1 with | some .cell => true | some .free => true | _ => false)
   | .local => decide (y.1 ∈ own.map (·.1)) || decide (y.1 ∉ N)
   | .cell => decide (y.1 ∈ own.map (·.1)) || decide (y.1 ∉ N)
   | _ => true)
theorem lQ {N : List Str} {sc scope : Scope} {own : List (Str × Nat)} (h : Ci N sc scope own = true) : tH N sc scope own := by
 unfold Ci at h
 simp only [Bool.and_eq_true, List.all_eq_true, decide_eq_true_eq] at h
 obtain ⟨⟨⟨h1, h2⟩, h3⟩, h4⟩ := h
 refine ⟨?_, h2, h3, fun y hy e => ?_, fun y hy e => ?_⟩
 ·split at h1
  ·assumption
  ·cases h1
 ·have q := h4 y hy
  simp only [e] at q
  split at q <;> first | exact .inl (by assumption) | exact .inr (by assumption) | cases q
 ·have q := h4 y hy
  rcases e with e | e <;> (simp only [e, Bool.or_eq_true, decide_eq_true_eq] at q; exact q)
end L2
namespace L2
open PySem PySem.Spec PyProof.Rows
section
variable {prog : Program} {w : World} {A : Around} {R : Result -> Shared -> Prop} {s : Shared} {elt t0 i0 t1 i1 : Expr} {ifs0 ifs1 : List Expr} {scope : Scope} {pos : Pos} {it acc : Value} {env : Env}
end
section
variable {X : Cx}
end
end L2
namespace L2
open PySem PySem.Spec PyProof.Rows
section
variable {κ : Type} [DecidableEq κ]
def aZ (kvs : List (κ × V)) (k : κ) : Option V := (kvs.find? fun kv => decide (kv.1 = k)).map (·.2)
def jq (kvs : List (κ × V)) (k : κ) (v : V) : List (κ × V) :=
 if (kvs.any fun kv => decide (kv.1 = k)) = true then kvs.map (fun kv => if kv.1 = k then (kv.1, v) else kv) else kvs ++ [(k, v)]
theorem bD {p : κ × V} {r : List (κ × V)} {k : κ} (e : p.1 = k) : aZ (p :: r) k = some p.2 := by simp [aZ, List.find?_cons, e]
theorem bF {p : κ × V} {r : List (κ × V)} {k : κ} (e : ¬ p.1 = k) : aZ (p :: r) k = aZ r k := by simp [aZ, List.find?_cons, e]
theorem jY (k : κ) : ∀ kvs : List (κ × V), (kvs.any fun kv => decide (kv.1 = k)) = (aZ kvs k).isSome
 | [] => rfl
 | p :: r => by
   rw [List.any_cons]
   by_cases e : p.1 = k
   ·simp only [bD e, decide_eq_true e, Bool.true_or, Option.isSome_some]
   ·rw [bF e, decide_eq_false e, Bool.false_or]; exact jY k r
theorem qA (k j : κ) (y : V) : ∀ kvs : List (κ × V), aZ (kvs.map fun kv => if kv.1 = k then (kv.1, y) else kv) j = (aZ kvs j).map fun x => if j = k then y else x
 | [] => rfl
 | p :: r => by
   have ih := qA k j y r
   rw [List.map_cons]
   by_cases h : p.1 = k
   ·rw [if_pos h]
    by_cases e : p.1 = j
    ·rw [bD (p := (p.1, y)) e, bD e, Option.map_some, if_pos (e.symm.trans h)]
    ·rw [bF (p := (p.1, y)) e, bF e, ih]
   ·rw [if_neg h]
    by_cases e : p.1 = j
    ·rw [bD (p := p) e, bD e, Option.map_some, if_neg (fun z => h (e.trans z))]
    ·rw [bF (p := p) e, bF e, ih]
theorem ow (k j : κ) (y : V) : ∀ kvs : List (κ × V), aZ kvs k = none -> aZ (kvs ++ [(k, y)]) j = if j = k then some y else aZ kvs j
 | [], _ => by
   by_cases e : k = j
   ·rw [if_pos e.symm]; exact bD (p := (k, y)) e
   ·rw [if_neg (fun z => e z.symm)]; exact bF (p := (k, y)) e
 | p :: r, hn => by
   rw [List.cons_append]
   have hk : ¬ p.1 = k := fun z => by rw [bD z] at hn; cases hn
   rw [bF hk] at hn
   have ih := ow k j y r hn
   by_cases e : p.1 = j
   ·rw [bD e, bD e, if_neg (fun z => hk (e.trans z))]
   ·rw [bF e, bF e, ih]
theorem v0 (kvs : List (κ × V)) (k j : κ) (y : V) : aZ (jq kvs k y) j = if j = k then some y else aZ kvs j := by
 unfold jq
 by_cases a : (kvs.any fun kv => decide (kv.1 = k)) = true
 ·rw [if_pos a, qA]
  rw [jY] at a
  by_cases e : j = k
  ·obtain ⟨x, hx⟩ := Option.isSome_iff_exists.mp a
   rw [if_pos e, e, hx, Option.map_some, if_pos rfl]
  ·rw [if_neg e]
   cases aZ kvs j with
   | none => rfl
   | some x => rw [Option.map_some, if_neg e]
 ·rw [if_neg a]
  refine ow k j y kvs ?_
  rw [jY] at a
  cases q : aZ kvs k with
  | none => rfl
  | some x => rw [q] at a; exact (a rfl).elim
theorem lg (kvs : List (κ × V)) (k : κ) (v : V) : (jq kvs k v).length <= kvs.length + 1 := by
 unfold jq
 split
 ·rw [List.length_map]; omega
 ·rw [List.length_append, List.length_cons, List.length_nil]; omega
theorem RelO.isSome_eq {o : Option V} {u : Option Value} (r : RelO o u) : o.isSome = u.isSome := by
 cases o with
 | none => cases u with
   | none => rfl
   | some _ => exact (show False from r).elim
 | some _ => cases u with
   | none => exact (show False from r).elim
   | some _ => rfl
theorem RelO.getD {o : Option V} {u : Option Value} {d : V} {d' : Value} (r : RelO o u) (rd : RelV d d') : RelV (o.getD d) (u.getD d') := by
 cases o with
 | none => cases u with
   | none => exact rd
   | some _ => exact (show False from r).elim
 | some _ => cases u with
   | none => exact (show False from r).elim
   | some _ => exact r
theorem KV.val {kvs : List (κ × V)} {vs : List (κ × Value)} (r : KV kvs vs) (k : κ) : RelO (aZ kvs k) (valueAt vs k) := by
 unfold KV at r
 induction r with
 | nil => exact True.intro
 | @cons p q ps qs h t ih =>
   obtain ⟨h1, h2⟩ := h
   by_cases e : p.1 = k
   ·have e' : q.1 = k := h1.symm.trans e
    have b : valueAt (q :: qs) k = some q.2 := by simp [valueAt, List.find?_cons, e']
    rw [bD e, b]; exact h2
   ·have e' : ¬ q.1 = k := fun z => e (h1.trans z)
    have b : valueAt (q :: qs) k = valueAt qs k := by simp [valueAt, List.find?_cons, e']
    rw [bF e, b]; exact ih
theorem KV.any {kvs : List (κ × V)} {vs : List (κ × Value)} (r : KV kvs vs) (k : κ) : (kvs.any fun kv => decide (kv.1 = k)) = vs.any fun kv => decide (kv.1 = k) := by
 unfold KV at r
 induction r with
 | nil => rfl
 | cons h t ih => rw [List.any_cons, List.any_cons, ih, h.1]
theorem KV.repl {kvs : List (κ × V)} {vs : List (κ × Value)} (r : KV kvs vs) (k : κ) {y : V} {u : Value} (ry : RelV y u) :
  KV (kvs.map fun kv => if kv.1 = k then (kv.1, y) else kv) (vs.map fun kv => if kv.1 = k then (kv.1, u) else kv) := by
 unfold KV at r ⊢
 induction r with
 | nil => exact .nil
 | @cons p q ps qs h t ih =>
   rw [List.map_cons, List.map_cons]
   refine .cons ?_ ih
   obtain ⟨h1, h2⟩ := h
   by_cases e : p.1 = k
   ·rw [if_pos e, if_pos (h1.symm.trans e)]; exact ⟨h1, ry⟩
   ·rw [if_neg e, if_neg (fun z => e (h1.trans z))]; exact ⟨h1, h2⟩
theorem KV.put {kvs : List (κ × V)} {vs : List (κ × Value)} (r : KV kvs vs) (k : κ) {y : V} {u : Value} (ry : RelV y u) : KV (jq kvs k y) (stored vs k u) := by
 unfold jq stored
 rw [r.any k]
 by_cases e : (vs.any fun kv => decide (kv.1 = k)) = true
 ·rw [if_pos e, if_pos e]; exact r.repl k ry
 ·rw [if_neg e, if_neg e]; exact Paired.snoc r ⟨rfl, ry⟩
theorem KV.length {kvs : List (κ × V)} {vs : List (κ × Value)} (r : KV kvs vs) : kvs.length = vs.length := Paired.length r
end
theorem lM {P : Program} {w : World} {k : Key} {u : Value} (r : RelV (kV k) u) : (b8 P w).is k u = true := by
 cases k with
 | inl i => obtain ⟨t, e⟩ := (show ∃ t, u = Value.int i t from r); subst e; exact qT P w i t
 | inr x => obtain ⟨t, e⟩ := (show ∃ t, u = Value.str x t from r); subst e; exact qE P w x t
theorem kM {P : Program} {w : World} : ∀ {ks : List Key} {us : List Value}, Vals (ks.map kV) us -> ItemsAre (b8 P w) ks us
 | [], _, r => by rw [List.map_nil] at r; cases r; exact .nil
 | k :: ks, _, r => by
   rw [List.map_cons] at r
   cases r with
   | cons h t => exact .cons (lM h) (kM t)
abbrev KT (H : Hp) : List (List Key × V) -> List (List Key × Addr × Value) -> Prop := Paired fun p q => p.1 = q.1 /\ H q.2.1 = some (.tup (p.1.map kV)) /\ RelV p.2 q.2.2
theorem KT.val {H : Hp} {kvs : List (List Key × V)} {xs : List (List Key × Addr × Value)} (r : KT H kvs xs) (k : List Key) : RelO (aZ kvs k) ((atKey xs k).map (·.2)) := by
 induction r with
 | nil => exact True.intro
 | @cons p q ps qs h t ih =>
   obtain ⟨h1, _, h2⟩ := h
   by_cases e : p.1 = k
   ·have e' : q.1 = k := h1.symm.trans e
    have b : atKey (q :: qs) k = some q.2 := by simp [atKey, List.find?_cons, e']
    rw [bD e, b]; exact h2
   ·have e' : ¬ q.1 = k := fun z => e (h1.trans z)
    have b : atKey (q :: qs) k = atKey qs k := by simp [atKey, List.find?_cons, e']
    rw [bF e, b]; exact ih
theorem KT.repl {H : Hp} {kvs : List (List Key × V)} {xs : List (List Key × Addr × Value)} (r : KT H kvs xs) (k : List Key) {y : V} {u : Value} (ry : RelV y u) :
  KT H (kvs.map fun kv => if kv.1 = k then (kv.1, y) else kv) (xs.map (putAt k u)) := by
 induction r with
 | nil => exact .nil
 | @cons p q ps qs h t ih =>
   rw [List.map_cons, List.map_cons]
   refine .cons ?_ ih
   obtain ⟨h1, h2, h3⟩ := h
   unfold putAt
   by_cases e : p.1 = k
   ·rw [if_pos e, if_pos (h1.symm.trans e)]; exact ⟨h1, h2, ry⟩
   ·rw [if_neg e, if_neg (fun z => e (h1.trans z))]; exact ⟨h1, h2, h3⟩
theorem KT.put {H : Hp} {kvs : List (List Key × V)} {xs : List (List Key × Addr × Value)} (r : KT H kvs xs) (k : List Key) {b : Addr} {y : V} {u : Value} (hb : H b = some (.tup (k.map kV))) (ry : RelV y u) :
  KT H (jq kvs k y) (storedH xs k b u) := by
 have e : (kvs.any fun kv => decide (kv.1 = k)) = (atKey xs k).isSome := by
  rw [jY, (r.val k).isSome_eq, Option.isSome_map]
 unfold jq storedH
 rw [e]
 by_cases q : (atKey xs k).isSome = true
 ·rw [if_pos q, if_pos q]; exact r.repl k ry
 ·rw [if_neg q, if_neg q]; exact Paired.snoc r ⟨rfl, hb, ry⟩
theorem KT.keeps {H H' : Hp} {kvs : List (List Key × V)} {xs : List (List Key × Addr × Value)} (r : KT H kvs xs) (ht : ∀ b ys, H b = some (.tup ys) -> H' b = some (.tup ys)) : KT H' kvs xs :=
 Paired.mapP r fun _ _ z => ⟨z.1, ht _ _ z.2.1, z.2.2⟩
section
variable {P : Program} {w : World} {H : Hp} {h : Heap} {a : Addr}
theorem yc {u : HO} (ok : HOk P w H h) (e : Rd H a u) : ObjOk P w H h a u := e.ok ok
theorem yg {kvs : List (Key × V)} (ok : HOk P w H h) (e : Rd H a (.dK kvs)) : kvs.length <= sizeLine /\ (a == sysModules) = false /\ ∃ vs, KV kvs vs /\ h.DictOf (b8 P w) a vs :=
 show ObjOk P w H h a (.dK kvs) from yc ok e
theorem BY {kvs : List (Key × V)} (ok : HOk P w H h) (e : H a = some (.dK kvs)) : kvs.length <= sizeLine /\ (a == sysModules) = false /\ ∃ vs, KV kvs vs /\ h.DictOf (b8 P w) a vs := yg ok (.inl e)
theorem mi {ks : List Key} (ok : HOk P w H h) (e : H a = some (.tup (ks.map kV))) : (tupleKind (b8 P w)).is h ks a := by
 obtain ⟨_, its, r, o, h1, h2, n, h3⟩ := (show ObjOk P w H h a (.tup (ks.map kV)) from ok a _ e)
 exact ⟨o, its.toArray, n, h1, h2, h3, by simpa using kM r⟩
theorem xM {kvs : List (List Key × V)} (ok : HOk P w H h) (e : Rd H a (.dT kvs)) : kvs.length <= sizeLine /\ (a == sysModules) = false /\
  ∃ xs, KT H kvs xs /\ h.DictOfH (tupleKind (b8 P w)) a xs := by
 obtain ⟨z, y, xs, r, o, es, ep, h1, h2, h3, h4, h5⟩ := (show ObjOk P w H h a (.dT kvs) from yc ok e)
 refine ⟨z, y, xs, r, o, es, ep, h1, h2, h3, h4, fun x hx => ?_, h5⟩
 have all : ∀ {l : List (List Key × V)} {m : List (List Key × Addr × Value)}, KT H l m -> ∀ x ∈ m, (tupleKind (b8 P w)).is h x.1 x.2.1 := by
  intro l m q
  induction q with
  | nil => intro x hx; exact nomatch hx
  | @cons p q ps qs hq t ih =>
    intro x hx
    rcases List.mem_cons.mp hx with e | hx
    ·subst e
     exact mi ok (by rw [<- hq.1]; exact hq.2.1)
    ·exact ih x hx
 exact all r x hx
theorem Cd {kvs : List (List Key × V)} (ok : HOk P w H h) (e : H a = some (.dT kvs)) : kvs.length <= sizeLine /\ (a == sysModules) = false /\
  ∃ xs, KT H kvs xs /\ h.DictOfH (tupleKind (b8 P w)) a xs := xM ok (.inl e)
end
def DGet (H : Hp) (a : Addr) (y : V) (r : Option V) : Prop :=
 (∃ kvs k, Rd H a (.dK kvs) /\ y = kV k /\ r = aZ kvs k) ∨ ∃ kvs k b, Rd H a (.dT kvs) /\ y = .ref b /\ H b = some (.tup (k.map kV)) /\ r = aZ kvs k
def DPut (H : Hp) (a : Addr) (y v : V) (H' : Hp) : Prop :=
 (∃ kvs k, H a = some (.dK kvs) /\ y = kV k /\ kvs.length < sizeLine /\ H' = upd H a (.dK (jq kvs k v))) ∨
 ∃ kvs k b, H a = some (.dT kvs) /\ y = .ref b /\ H b = some (.tup (k.map kV)) /\ kvs.length < sizeLine /\ H' = upd H a (.dT (jq kvs k v))
theorem DGet.t {H : Hp} {a b : Addr} {kvs : List (List Key × V)} {k : List Key} (e : H a = some (.dT kvs)) (eb : H b = some (.tup (k.map kV))) : DGet H a (.ref b) (aZ kvs k) := .inr ⟨kvs, k, b, .inl e, rfl, eb, rfl⟩
theorem DPut.t {H : Hp} {a b : Addr} {kvs : List (List Key × V)} {k : List Key} {v : V} (e : H a = some (.dT kvs)) (eb : H b = some (.tup (k.map kV))) (hl : kvs.length < sizeLine) :
  DPut H a (.ref b) v (upd H a (.dT (jq kvs k v))) := .inr ⟨kvs, k, b, e, rfl, eb, hl, rfl⟩
section
variable {X : Cx} {pins : List (Addr × Obj)} {σ : St} {H : Hp} {s : Shared} {a : Addr} {y v : V} {u r : Value} {o : Option V} {A : Around} {E : Value -> Shared -> Prop}
theorem Inv.big (I : Inv X pins σ H s) : sysModules < s.heap.objs.size := by
 have h : mainGlobals < s.heap.objs.size := (I.mod.glob.keeps I.bk).lt
 exact Nat.lt_trans (by decide) h
theorem D7 {Q : Value -> Shared -> Prop} (hu : A.units + 1 < cLine) (I : Inv X pins σ H s) (g : DGet H a y o) (ry : RelV y u) (h : ∀ s', Inv X pins σ H s' -> Q (.bool o.isSome) s') :
  wpAny (model X.prog X.w) A (compareOp .In u (.ref a)) Q E s := by
 rcases g with ⟨kvs, k, e, ey, l⟩ | ⟨kvs, k, b, e, ey, eb, l⟩
 ·subst ey
  obtain ⟨z, hd, vs, rel, dd⟩ := yg I.hok e
  refine wpAny_in_of (lM ry) hd dd.mapOf ?_
  rw [<- (rel.val k).isSome_eq, <- l]
  exact h _ (I.tok _)
 ·subst ey
  cases (show u = Value.ref b from ry)
  obtain ⟨z, hd, xs, rel, dd⟩ := xM I.hok e
  refine wpAny_in_heap (tupleKind_room_in1 hu) (mi I.hok eb) hd dd ?_
  have q := (rel.val k).isSome_eq
  rw [Option.isSome_map] at q
  rw [<- q, <- l]
  exact h _ (I.tok _)
theorem tV {h' : Heap} {t' : Nat} {ob : HO} (I : Inv X pins σ H s) (mu : Mut (H a)) (hs : Heap.SameBut a s.heap h') (he : ∃ q, h'.get? a = some q) (new : ObjOk X.prog X.w (upd H a ob) h' a ob) :
  Inv X pins σ (upd H a ob) { s with heap := h', toks := t' } :=
 I.write (x := a) (e := a) mu (.inl rfl) (fun b q hb z => (hs.2 b hb).trans z) he new
theorem zl {P : Program} {w : World} {H' : Hp} {h' : Heap} {kvs : List (Key × V)} {vs : List (Key × Value)} (z : kvs.length <= sizeLine) (hd : (a == sysModules) = false) (rel : KV kvs vs) (dd : h'.DictOf (b8 P w) a vs) :
  ObjOk P w H' h' a (.dK kvs) := ⟨z, hd, vs, rel, dd⟩
theorem uf {H' : Hp} {Q : Unit -> Shared -> Prop} (hu : A.units + 1 < cLine) (I : Inv X pins σ H s) (g : DPut H a y v H') (ry : RelV y u) (rv : RelV v r) (h : ∀ s', Inv X pins σ H' s' -> Q () s') :
  wpAny (model X.prog X.w) A (setItem (.ref a) u r) Q E s := by
 rcases g with ⟨kvs, k, e, ey, l, eH⟩ | ⟨kvs, k, b, e, ey, eb, l, eH⟩
 ·subst ey eH
  obtain ⟨z, hd, vs, rel, dd⟩ := BY I.hok e
  have hz : vs.length <= sizeLine := by rw [<- rel.length]; exact z
  have hl : (jq kvs k v).length <= sizeLine := by have := lg kvs k v; omega
  refine wpAny_setItem_pairs (hsz := hz) (lM ry) dd fun h' dd' hs => h _ ?_
  have he : ∃ q, h'.get? a = some q := let ⟨q, _, _, hq, _⟩ := dd'; ⟨q, hq⟩
  exact tV I (by rw [e]; exact True.intro) hs he (zl hl hd (rel.put k rv) dd')
 ·subst ey eH
  cases (show u = Value.ref b from ry)
  obtain ⟨z, hd, xs, rel, dd⟩ := Cd I.hok e
  have hz : xs.length <= sizeLine := by rw [<- Paired.length rel]; exact z
  have hl : (jq kvs k v).length <= sizeLine := by have := lg kvs k v; omega
  refine wpAny_setItem_heap (hsz := hz) (tupleKind_room_in1 hu) (mi I.hok eb) dd fun h' dd' hs => h _ ?_
  obtain ⟨q, es, ep, hq, h2, h3, h4, _, h5⟩ := dd'
  refine tV I (by rw [e]; exact True.intro) hs ⟨q, hq⟩ ⟨hl, hd, _, (rel.put k eb rv).keeps fun c ys ec => ?_, q, es, ep, hq, h2, h3, h4, h5⟩
  rw [al (oA ec e (fun z => nomatch z))]
  exact ec
end
section
variable {X : Cx} {pins : List (Addr × Obj)} {σ : St} {H : Hp} {s : Shared} {a : Addr} {kvs : List (Key × V)} {k : Key} {u : Value} {A : Around} {E : Value -> Shared -> Prop}
end
def A6 (i : Expr) : Prop := ∀ ov iv, subscripted i false ov iv = operate [ov, iv] (getItem ov iv)
theorem sZ {prog : Program} {w : World} {A : Around} {E : Value -> Shared -> Prop} {s : Shared} {env : Env} {value slice : Expr} {pos : Pos} {T id : String} {Q : Value -> Shared -> Prop}
  (hl : typeLookup (.type T) "__getitem__" = pure (some (.builtin id))) (hs : A6 slice)
  (h : wpAny (model prog w) A (eval value env) (fun o s₁ => wpAny (model prog w) A (eval slice env) (fun i s₂ => s₂.TypeIs o T /\ wpAny (model prog w) A (getItem o i) Q E s₂) E s₁) E s) :
  wpAny (model prog w) A (eval (.Subscript value slice pos) env) Q E s := by
 refine Subscript_ (wpAny_mono h (fun o s₁ h₁ => wpAny_mono h₁ (fun i s₂ h₂ => ?_) fun _ _ x => x) fun _ _ x => x)
 obtain ⟨hT, h₂⟩ := h₂
 unfold subscriptTail
 refine wpAny_bind ?_
 rw [getitemInPython_of_ne hT.not_modules]
 refine wpAny_bind (wpAny_specialOf hT hl ?_)
 have fin : wpAny (model prog w) A (subscripted slice false o i) (fun r s₃ => wpAny (model prog w) A (letTemporaryGo value o r >>= fun _ => pure r) Q E s₃) E s₂ := by
  rw [hs o i]
  exact wpAny_operating (wpAny_mono h₂ (fun r s₃ h₃ => wpAny_bind (wpAny_letTemporaryGo (wpAny_pure h₃))) fun _ _ x => x)
 first
  | exact wpAny_pure (wpAny_bind fin)
  | exact wpAny_bind (wpAny_pure (wpAny_bind fin))
  | exact wpAny_bind fin
def Di (ty td : TE) : TE := fun σ H Q => ty σ H fun y H1 => td σ H1 fun x H2 => ∃ a o, x = .ref a /\ DGet H2 a y o /\ Q (.bl o.isSome) H2
def CQ (td ty tv : TE) : TS := fun D σ H => tv σ H fun v H1 => td σ H1 fun x H2 => ty σ H2 fun y H3 => ∃ a H4, x = .ref a /\ DPut H3 a y v H4 /\ D.nx σ H4
section
variable {X : Cx} {o i e value : Expr} {pos pos' tpos : Pos} {td ty tv : TE}
theorem zc (hu : X.A.units + 1 < cLine) (hi : PE X i ty) (ho : PE X o td) : PC X .In i o (Di ty td) := by
 intro pins s σ H Q I h
 refine thn (hi pins s σ H _ I h) fun iv s1 ⟨y, H1, I1, ry, q1⟩ => thn (ho pins s1 σ H1 _ I1 q1) fun u s2 ⟨x, H2, I2, rx, a, ov, ex, g, q2⟩ => ?_
 subst ex
 obtain rfl : u = Value.ref a := rx
 exact D7 hu I2 g ry fun s3 I3 => ⟨.bl ov.isSome, H2, I3, rfl, q2⟩
theorem xx (hu : X.A.units + 1 < cLine) (ho : PE X o td) (hi : PE X i ty) (hv : PE X value tv) (hs : swapsWith value (some (.Subscript o i pos')) pos.line X.env = pure false) :
  PS X (.Assign [.Subscript o i pos'] value pos) (CQ td ty tv) := by
 intro pins s σ H D I h
 refine wpAny_Assign_Subscript (thn (hv pins s σ H _ I h) fun r s1 ⟨v, H1, I1, rv, q1⟩ => thn (ho pins s1 σ H1 _ I1 q1) fun u s2 ⟨x, H2, I2, rx, q2⟩ => thn (hi pins s2 σ H2 _ I2 q2) fun iv s3 ⟨y, H3, I3, ry, a, H4, ex, g, q3⟩ => ?_) hs
 subst ex
 obtain rfl : u = Value.ref a := rx
 exact uf hu I3 g ry rv fun s4 I4 => ⟨σ, H4, I4, q3⟩
end
theorem uS {P : Program} {w : World} {H : Hp} (h : Heap) (hb : sysModules < h.objs.size) : ObjOk P w H (h.push { cls := .type "dict", data := .dict #[] }) h.objs.size (.dT []) :=
 ⟨Nat.zero_le _, beq_eq_false_iff_ne.mpr (Ne.symm (Nat.ne_of_lt hb)), [], .nil, _, #[], 0, Heap.get?_push_size _ rfl, ⟨rfl, rfl, rfl⟩, rfl, rfl, List.nodup_nil⟩
def yy : TE := fun _ H Q => ∀ p, H p = none -> Q (.ref p) (upd H p (.dT []))
section
variable {X : Cx} {pos : Pos}
theorem vV : PE X (.Dict [] [] pos) yy := fun pins s σ H Q I h =>
 wpAny_Dict_empty ⟨.ref s.heap.objs.size, _, I.laid (a := s.heap.objs.size) (o := .dT []) (t' := s.toks) (fun _ _ q => Heap.get?_push_of_some _ q) (Nat.le_refl _) (uS s.heap I.big), rfl, h _ (I.hok.fresh (Nat.le_refl _))⟩
end
structure M2 (X : Cx) (o : Expr) (m : Str) (apos : Pos) (e f : Expr) (cpos : Pos) : Prop where
 base : attributeBase o m X.env (eval o X.env) = eval o X.env
 few : ((backTo cpos (starEach [e, f] X.env)).all (fun x => !x.1) && (backToKw cpos (keywordEach [] X.env)).all (fun x => x.1.isSome)
  && decide (([e, f] : List Expr).length + ([] : List Keyword).length + (if ([] : List Keyword).isEmpty then 0 else 1) < 30)) = true
 line : (apos.endLine == cpos.line) = true
 trees : backTo cpos (starEach [e, f] X.env) = [(false, eval e X.env), (false, eval f X.env)]
section
variable {X : Cx} {pins : List (Addr × Obj)} {σ : St} {H : Hp} {s : Shared} {a : Addr} {y d : V} {u r : Value} {o : Option V} {A : Around} {E : Value -> Shared -> Prop}
end
section
variable {X : Cx} {o e f : Expr} {apos cpos : Pos} {td ty tx : TE}
end
section
variable {X : Cx} {pins : List (Addr × Obj)} {σ : St} {H : Hp} {s : Shared} {a : Addr} {kvs : List (Key × V)} {A : Around} {E : Value -> Shared -> Prop}
end
section
variable {X : Cx} {pins : List (Addr × Obj)} {σ : St} {H : Hp} {s : Shared} {a : Addr} {y : V} {u : Value} {A : Around} {E : Value -> Shared -> Prop}
end
end L2
namespace L2
open PySem PySem.Spec PyProof.Rows
section
variable {prog : Program} {w : World} {A : Around} {E : Value -> Shared -> Prop}
end
section
variable {X : Cx}
end
end L2
namespace L2
open PySem PySem.Spec PyProof.Rows
section
variable {X : Cx} {pins : List (Addr × Obj)} {σ : St} {H : Hp} {s : Shared} {h' : Heap}
theorem Inv.turnedL {t' : Nat} {ch : List Addr} (I : Inv X pins σ H s) (k : ∀ b o, b ∉ ch -> s.heap.get? b = some o -> h'.get? b = some o) (hf : ∀ b ∈ ch, lq X pins H b) : Inv X pins σ H { s with heap := h', toks := t' } := by
 have nit : ∀ b u, H b = some u -> b ∉ ch := fun b u e z => by
  have q := (hf b z).1
  rw [q] at e; cases e
 refine I.step (g' := s.gens) (d' := s.drawn) (ch := ch) (fun b hb => ⟨(hf b hb).2.2.2.1, (hf b hb).2.1, (hf b hb).2.2.2.2.1, (hf b hb).2.2.2.2.2⟩) (fun b o _ _ hc e _ => k b o hc e) (fun b o _ _ hc e _ => ⟨o.slots, k b o hc e⟩)
  (fun _ _ _ _ n => n) (fun b o hc e => ⟨o, k b o hc e⟩) (fun _ _ e => e) (fun _ _ _ e => e) (fun b ps e => ⟨#[], by rw [e]; simp⟩) (fun m hm => ?_) (fun b u e => ?_) I.bare
 ·obtain ⟨o, es, ep, ho, r⟩ := hm
  exact ⟨o, es, ep, k _ o (fun z => (hf _ z).2.1 rfl) ho, r⟩
 ·refine (I.hok b u e).stay (fun c v hc q => k c v ?_ q) (fun _ q => q) fun _ _ q => q
  rcases hc with z | z
  ·rw [z]; exact nit b u e
  ·exact nit c _ z
theorem Inv.turnedNew {t' : Nat} {ch : List Addr} {T : Addr} {ob : HO} (I : Inv X pins σ H s) (k : ∀ b o, b ∉ ch -> s.heap.get? b = some o -> h'.get? b = some o) (hf : ∀ b ∈ ch, lq X pins H b) (hT : s.heap.objs.size <= T)
  (new : ObjOk X.prog X.w (upd H T ob) h' T ob) : Inv X pins σ (upd H T ob) { s with heap := h', toks := t' } := by
 have hn : H T = none := I.hok.fresh hT
 have nit : ∀ b u, H b = some u -> b ∉ ch := fun b u e z => by
  have q := (hf b z).1
  rw [q] at e; cases e
 refine I.step (g' := s.gens) (d' := s.drawn) (ch := ch) (fun b hb => ⟨(hf b hb).2.2.2.1, (hf b hb).2.1, (hf b hb).2.2.2.2.1, (hf b hb).2.2.2.2.2⟩) (fun b o _ _ hc e _ => k b o hc e) (fun b o _ _ hc e _ => ⟨o.slots, k b o hc e⟩)
  (fun b o _ e n => ?_) (fun b o hc e => ⟨o, k b o hc e⟩) (fun b xs e => ?_) (fun b o u e => ?_) (fun b ps e => ⟨#[], ?_⟩) (fun m hm => ?_) (fun b u e => ?_) I.bare
 ·rw [al (Nat.ne_of_lt (Nat.lt_of_lt_of_le (Heap.lt_size e) hT))]; exact n
 ·rw [al (az e hn)]; exact e
 ·rw [al (az e hn)]; exact e
 ·rw [al (az e hn), e]; simp
 ·obtain ⟨o, es, ep, ho, r⟩ := hm
  exact ⟨o, es, ep, k _ o (fun z => (hf _ z).2.1 rfl) ho, r⟩
 ·by_cases hb : b = T
  ·subst hb
   rw [af] at e
   cases e
   exact new
  ·rw [al hb] at e
   refine (I.hok b u e).stay (fun c v hc q => k c v ?_ q) (fun c q => by rw [al (az q hn)]; exact q) fun c xs q => by rw [al (az q hn)]; exact q
   rcases hc with z | z
   ·rw [z]; exact nit b u e
   ·exact nit c _ z
end
section
variable {X : Cx}
theorem wl {tg : Expr} {pins : List (Addr × Obj)} {σ : St} {H : Hp} {s : Shared} {R : It -> Hp -> Prop} {J : It} {tn : Nat -> Heap -> Prop} {tk : Nat} (I : Inv X pins σ H s) (o : Obj)
  (T : uy X.prog X.w X.K tg J [s.heap.objs.size] s.heap.objs.size tn) (st : tn 0 (s.heap.push o)) (q : R J H) : PIE X pins σ tg R (.ref s.heap.objs.size) { s with heap := s.heap.push o, toks := tk } := by
 refine ⟨s.heap.objs.size, [s.heap.objs.size], tn, J, H, rfl, I.kept fun b ob e => Heap.get?_push_of_some _ e, T, st, fun b hb => ?_, q⟩
 have e : b = s.heap.objs.size := by simpa using hb
 subst e
 exact I.fpOk (Nat.le_refl _) (I.hok.fresh (Nat.le_refl _))
end
section
variable {X : Cx} {tg : Expr}
end
section
variable {X : Cx} {tg : Expr}
end
def Its (x : Str) : It := ⟨fun i _ => i < x.cps.size, fun i H v H' => H' = H /\ ∃ c, x.cps[i]? = some c /\ v = .str ⟨#[c]⟩, fun i _ => x.cps.size <= i⟩
theorem re {P : Program} {w : World} {K : Frag} {tg : Expr} (it : Addr) (x : Str) (t : Tok) (ty : String) (hty : ty = "str_ascii_iterator" ∨ ty = "str_iterator") :
  uy P w K tg (Its x) [it] it (fun i h => h.IsStrIter it ty x t i) where
 mem := by simp
 obj := fun i h st b hb => by
  have e : b = it := by simpa using hb
  subst e
  obtain ⟨o, e, c, d⟩ := st
  exact ⟨o, e, fun v z => by rw [d] at z; cases z⟩
 keep := fun i h h' st k => let ⟨o, ho, r⟩ := st; ⟨o, k it (by simp) o ho, r⟩
 item := by
  intro X hP hw hK hc i pins s σ H E I hf st hg
  subst hP hw hK
  obtain ⟨f0, f1, f2, f3, f4, f5⟩ := hf it (by simp)
  have W : Walks X.prog X.w X.A it [it] [it] x.cps.size (SignAt x) (fun i h => h.IsStrIter it ty x t i) := by
   rcases hty with e | e
   ·rw [e]; exact Walks.strAscii (I.ok.hd hc) it x t
   ·rw [e]; exact Walks.strWide (I.ok.hd hc) it x t
  have hno : ["enumerate", "zip", "dict_itemiterator", "dict_reverseitemiterator", "odict_iterator", "itertools.zip_longest", "itertools.pairwise"].contains ty = false := by
   rcases hty with e | e
   ·rw [e]; decide
   ·rw [e]; decide
  refine W.item i s _ _ hg st fun v h' tk hv st' kk => ?_
  obtain ⟨c, u, hcx, rfl⟩ := hv
  have I1 : Inv X pins σ H { s with heap := h', toks := tk } := I.turned (fun b o hb e => kk b o (by simpa using hb) e) f0 f1 f3 f4 f5
  obtain ⟨oi, e, cc, dd⟩ := id st'
  exact ⟨_, rfl, wa (s := { s with heap := h', toks := tk }) e cc dd hno ⟨.str ⟨#[c]⟩, H, I1, ⟨u, rfl⟩, ⟨rfl, c, hcx, rfl⟩, st', fun b hb => (hf b hb).1⟩⟩
 done := by
  intro X hP hw hK hc i pins s σ H E I hf st hg
  subst hP hw hK
  obtain ⟨f0, f1, f2, f3, f4, f5⟩ := hf it (by simp)
  have hx : x.cps[i]? = none := Array.getElem?_eq_none hg
  rcases hty with e | e
  ·rw [e] at st
   exact wpAny_pyNext_ascii_end (I.ok.hd hc) st hx fun h' eb => ⟨rfl, I.turned (t' := s.toks) (fun b o hb e => eb b o hb e) f0 f1 f3 f4 f5⟩
  ·rw [e] at st
   exact wpAny_pyNext_wide_end (I.ok.hd hc) st hx fun h' eb => ⟨rfl, I.turned (t' := s.toks) (fun b o hb e => eb b o hb e) f0 f1 f3 f4 f5⟩
 self := fun A i s Q E st h => by
  rcases hty with e | e
  ·rw [e] at st; exact wpAny_pyIter_striter_ascii st h
  ·rw [e] at st; exact wpAny_pyIter_striter_wide st h
def De (te : TE) : TI := fun σ H R => te σ H fun v H1 => ∃ x, v = .str x /\ R (Its x) H1
theorem AI {X : Cx} {tg e : Expr} {te : TE} (he : PE X e te) : PI X tg e (De te) := by
 intro pins s σ H R I h
 refine thn (he pins s σ H _ I h) fun v s1 ⟨y, H1, I1, r1, x, ex, q⟩ => ?_
 subst ex
 obtain ⟨t, rfl⟩ := r1
 cases ha : x.cps.all (· < 128)
 ·exact wpAny_pyIter_wide ha (wl (tk := s1.toks) I1 _ (re _ x t "str_iterator" (.inr rfl)) ⟨_, Heap.get?_push_size _ rfl, rfl, rfl⟩ q)
 ·exact wpAny_pyIter_ascii ha (wl (tk := s1.toks) I1 _ (re _ x t "str_ascii_iterator" (.inl rfl)) ⟨_, Heap.get?_push_size _ rfl, rfl, rfl⟩ q)
section
variable {prog : Program} {w : World} {A : Around} {E : Value -> Shared -> Prop} {s : Shared}
end
section
variable {X : Cx} {pins : List (Addr × Obj)} {σ : St} {H : Hp} {s : Shared} {d : Addr} {o : Obj}
end
section
variable {P : Program} {w : World} {K : Frag} {tg : Expr} {d : Addr} {o : Obj} {es : Array DictEntry} {ep : Nat}
end
section
variable {X : Cx} {tg e : Expr} {td : TE} {apos cpos : Pos}
end
theorem uu : bootBuiltins "zip" = some (.type "zip") := by decide +kernel
end L2
section
namespace Bits
open PySem PyProof.Rows
end Bits
end
section
namespace TL
open PySem PySem.Builtin PySem.Builtin.Str PySem.StrLaws
end TL
end
namespace L2
open PySem PySem.Spec PyProof.Rows
section
variable {X : Cx} {pins : List (Addr × Obj)} {σ : St} {H : Hp} {s : Shared} {Q : VK}
end
section
variable {X : Cx}
end
section
variable {X : Cx} {o e : Expr} {to te : TE}
end
end L2
namespace L2
open PySem PySem.Spec PyProof.Rows
section
variable {X : Cx}
end
end L2
namespace Att
open PySem PySem.W PySem.Calls PyProof.Rows
section
variable {prog : Program} {w : World} {A : Around} {E : Value -> Shared -> Prop} {s : Shared} {K : Frag}
end
end Att
namespace L2
open PySem PySem.Spec PyProof.Rows
end L2
namespace L2
open PySem PySem.Spec PyProof.Rows
abbrev KOf {K : Frag} {h : Heap} (_ : K.In h) : Frag := K
end L2
namespace L2
open PySem PySem.Spec PyProof.Rows
def aG (s : Stmt) (j : Nat) : Stmt := match s with
 | .ClassDef _ _ _ body _ _ _ _ _ _ _ => body.getD j (.Pass ⟨0, 0, 0, 0⟩)
 | _ => .Pass ⟨0, 0, 0, 0⟩
def bg (s : Stmt) : Arguments := match s with
 | .FunctionDef _ a _ _ _ _ _ _ _ _ => a
 | _ => { posonlyargs := [], args := [], vararg := none, kwonlyargs := [], kw_defaults := [], kwarg := none, defaults := [] }
def aT (s : Stmt) : List Stmt := match s with
 | .FunctionDef _ _ b _ _ _ _ _ _ _ => b
 | _ => []
def ad (s : Stmt) : Scope := match s with
 | .FunctionDef _ _ _ _ _ _ sc _ _ _ => sc
 | _ => { kind := .function, names := [], isGenerator := false, isCoroutine := false }
structure Fun (K : Frag) (x qual : Str) (st : Stmt) (f : Addr) (fd : FuncData) : Prop where
 ex : ∃ (oc : Value) (od : Option Addr) (kV doc pm : Value) (an : Option Addr) (cdv ct : Value) (osl : Array (Option Value)),
  fd = fnOf x qual (bg st) (aT st) (ad st) .none kV doc pm an cdv ct /\ K.lookup f = some ⟨oc, od, .func fd, osl⟩ /\ codeIn K cdv qual = true
 kp : keepIn K (.ref f) = true
section
variable {P : Program} {w : World} {K : Frag} {mg : Str -> Option Value} {base : Heap}
theorem Fun.binds {x qual : Str} {st : Stmt} {f : Addr} {fd : FuncData} {ps : List Str} (F : Fun K x qual st f fd)
  (h : ∀ (kV doc pm : Value) (an : Option Addr) (cdv ct : Value) (us : List Value), us.length = ps.length -> bindArgs (fnOf x qual (bg st) (aT st) (ad st) .none kV doc pm an cdv ct) ⟨us, []⟩ = pure (ps.zip us)) : Binds K fd ps [] := by
 obtain ⟨oc, od, kV, doc, pm, an, cdv, ct, osl, rfl, lk, hcd⟩ := F.ex
 exact .all (h kV doc pm an cdv ct)
theorem me {x qual : Str} {st : Stmt} {f : Addr} {oc : Value} {od an : Option Addr} {osl : Array (Option Value)} {kV doc pm cdv ct : Value} (l : K.lookup f = some ⟨oc, od, .func (fnOf x qual (bg st) (aT st) (ad st) .none kV doc pm an cdv ct), osl⟩)
  (c : codeIn K cdv qual = true) (k : keepIn K (.ref f) = true) : Fun K x qual st f (fnOf x qual (bg st) (aT st) (ad st) .none kV doc pm an cdv ct) := ⟨⟨oc, od, kV, doc, pm, an, cdv, ct, osl, rfl, l, c⟩, k⟩
end
theorem qC {A : Around} {k : Nat} (hr : Room k A) : A.units + 1 < cLine := Nat.lt_of_le_of_lt (Nat.add_le_add_left (by decide : 1 <= 64) _) hr.units
theorem u5 {n : Nat} (h : n <= 1000) : n < sizeLine := Nat.lt_of_le_of_lt h (by decide)
section
variable {X : Cx}
end
theorem c9 {A B : Prop} (h : B) : if false = true then A else B := by
 rw [if_neg Bool.false_ne_true]
 exact h
theorem bU {A B : Prop} (h : A) : if true = true then A else B := by
 rw [if_pos rfl]
 exact h
def Same (H H' : Hp) : Prop := ∀ b o, H b = some o -> H' b = some o
theorem Same.refl (H : Hp) : Same H H := fun _ _ h => h
theorem Same.trans {H H1 H2 : Hp} (a : Same H H1) (b : Same H1 H2) : Same H H2 := fun c o h => b c o (a c o h)
theorem Same.free {H H' : Hp} (e : Same H H') {l : Addr} (h : H' l = Option.none) : H l = Option.none := by
 cases q : H l with
 | none => rfl
 | some o =>
   rw [e l o q] at h
   cases h
theorem Same.seq {K : Frag} {H H' : Hp} {a : Addr} {xs : List V} (e : Same H H') (h : SqL K H a xs) : SqL K H' a xs := by
 rcases h with (h | ⟨o, h⟩) | h
 ·exact .inl (.inl (e _ _ h))
 ·exact .inl (.inr ⟨o, e _ _ h⟩)
 ·exact .inr h
section
variable {κ : Type} [DecidableEq κ]
end
theorem c7 {xs : List V} {z : Int} {j : Nat} {v : V} (e : z = (j : Int)) (h : xs[j]? = some v) : atI xs z = some v := by
 rw [e]
 exact xb h
end L2
section
set_option Elab.async false
set_option linter.all false
set_option maxRecDepth 100000
set_option maxHeartbeats 2000000
namespace L2
open PySem PySem.Spec PyProof.Rows
open PySem.W (WData Codec OpenSpec Well WellAll ReadsW ReadsAllW)
mutual
inductive Dw (K : Frag) (H : Hp) : V -> WData -> Prop
 | non : Dw K H .non .none
 | bl (b : Bool) : Dw K H (.bl b) (.bool b)
 | int (i : Int) : Dw K H (.int i) (.int i)
 | str (x : Str) : Dw K H (.str x) (.str x)
 | byt (b : Array UInt8) : Dw K H (.byt b) (.bytes b.toList)
 | lst {a : Addr} {xs : List V} {ds : List WData} : SqL K H a xs -> ge K H xs ds -> Dw K H (.ref a) (.list ds)
 | tup {a : Addr} {xs : List V} {ds : List WData} : SqT K H a xs -> ge K H xs ds -> Dw K H (.ref a) (.tuple ds)
inductive ge (K : Frag) (H : Hp) : List V -> List WData -> Prop
 | nil : ge K H [] []
 | cons {v : V} {vs : List V} {d : WData} {ds : List WData} : Dw K H v d -> ge K H vs ds -> ge K H (v :: vs) (d :: ds)
end
theorem sO {K : Frag} {H : Hp} : ∀ ns : List Int, ge K H (ns.map V.int) (ns.map WData.int)
 | [] => .nil
 | n :: r => .cons (.int n) (sO r)
theorem pj {K : Frag} {H : Hp} : ∀ (ns : List Int) (xs : List V), ge K H xs (ns.map WData.int) -> xs = ns.map V.int
 | [], xs, h => by
   cases h
   rfl
 | n :: r, xs, h => by
   cases h with
   | cons h1 h2 =>
     cases h1
     rw [pj r _ h2] <;> rfl
section
variable {P : Program} {w : World} {K : Frag} {H : Hp} {h : Heap} {R : PySem.W.WRecords} {cl : Str -> Option Addr}
theorem Aj {a : Addr} {xs : List V} (hok : HOk P w H h) (KX : K.In h) (q : SqL K H a xs) : ∃ (its : List Value) (o : Obj) (n : Nat), Vals xs its /\ h.get? a = some o /\ o.cls = .type "list" /\ o.data = .seq its.toArray n := by
 rcases q with q | ⟨o, its, n, e, hc, _, hd, _, hv⟩
 ·obtain ⟨_, its, n, hv, e⟩ := (show ObjOk P w H h a (.lst xs) from q.ok hok)
  exact ⟨its, _, n, hv, e, rfl, rfl⟩
 ·exact ⟨its.toList, o, n, hv, KX _ _ e, hc, by simp [hd]⟩
theorem yN {a : Addr} {xs : List V} (hok : HOk P w H h) (KX : K.In h) (q : SqT K H a xs) : ∃ (its : List Value) (o : Obj) (n : Nat), Vals xs its /\ h.get? a = some o /\ o.cls = .type "tuple" /\ o.data = .seq its.toArray n := by
 rcases q with q | ⟨o, its, n, e, hc, hd, _, hv⟩
 ·obtain ⟨_, its, hv, o, e, hc, n, hd⟩ := (show ObjOk P w H h a (.tup xs) from q.ok hok)
  exact ⟨its, o, n, hv, e, hc, hd⟩
 ·exact ⟨its.toList, o, n, hv, KX _ _ e, hc, by simp [hd]⟩
mutual
theorem Dw.reads (hok : HOk P w H h) (KX : K.In h) : ∀ (d : WData) (v : V) (u : Value), Dw K H v d -> RelV v u -> ∃ as, ReadsW R cl h u d as
 | .none, _, _, x, r => by
   cases x
   cases r
   exact ⟨_, ReadsW.none⟩
 | .bool b, _, _, x, r => by
   cases x
   cases r
   exact ⟨_, ReadsW.bool b⟩
 | .int i, _, _, x, r => by
   cases x
   obtain ⟨t, rfl⟩ := r
   exact ⟨_, ReadsW.int i t⟩
 | .str s, _, _, x, r => by
   cases x
   obtain ⟨t, rfl⟩ := r
   exact ⟨_, ReadsW.str s t⟩
 | .bytes b, _, _, x, r => by
   cases x
   obtain ⟨t, rfl⟩ := r
   exact ⟨_, ReadsW.bytes _ t⟩
 | .list ds, _, _, x, r => by
   cases x with
   | lst hs ha =>
     cases r
     obtain ⟨its, o, n, rv, ho, hc, hd⟩ := Aj hok KX hs
     obtain ⟨as, hr⟩ := Dw.readsAll hok KX ds _ its ha rv
     exact ⟨_, ReadsW.list ho hc hd hr⟩
 | .tuple ds, _, _, x, r => by
   cases x with
   | tup hs ha =>
     cases r
     obtain ⟨its, o, n, rv, ho, hc, hd⟩ := yN hok KX hs
     obtain ⟨as, hr⟩ := Dw.readsAll hok KX ds _ its ha rv
     exact ⟨_, ReadsW.tuple ho hc hd hr⟩
 | .float _, _, _, x, _ => by cases x
 | .dict _, _, _, x, _ => by cases x
 | .bytearray _, _, _, x, _ => by cases x
 | .set _, _, _, x, _ => by cases x
 | .frozenset _, _, _, x, _ => by cases x
 | .obj _ _, _, _, x, _ => by cases x
theorem Dw.readsAll (hok : HOk P w H h) (KX : K.In h) : ∀ (ds : List WData) (vs : List V) (us : List Value), ge K H vs ds -> Vals vs us -> ∃ as, ReadsAllW R cl h us ds as
 | [], _, _, x, r => by
   cases x
   cases r
   exact ⟨_, ReadsAllW.nil⟩
 | d :: ds, _, _, x, r => by
   cases x with
   | cons h1 h2 =>
     cases r with
     | cons r1 r2 =>
       obtain ⟨as, q1⟩ := Dw.reads hok KX d _ _ h1 r1
       obtain ⟨bs, q2⟩ := Dw.readsAll hok KX ds _ _ h2 r2
       exact ⟨_, ReadsAllW.cons q1 q2⟩
end
end
mutual
def plW : WData -> Bool
 | .none => true
 | .bool _ => true
 | .int _ => true
 | .str _ => true
 | .bytes _ => true
 | .list xs => ls xs
 | .tuple xs => ls xs
 | _ => false
def ls : List WData -> Bool
 | [] => true
 | x :: r => plW x && ls r
end
theorem rD {α : Type} {f : α -> WData} (h : ∀ a, plW (f a) = true) : ∀ l : List α, ls (l.map f) = true
 | [] => rfl
 | x :: r => by
   show (plW (f x) && ls (r.map f)) = true
   rw [h x, rD h r] <;> rfl
theorem gN : ∀ (c : Codec) (a : c.denote), plW (c.enc a) = true
 | .unit, _ => rfl
 | .bool, _ => rfl
 | .int _ _, _ => rfl
 | .nat _ _, _ => rfl
 | .u8, _ => rfl
 | .bytes _ _, _ => rfl
 | .text _ _ _ _, _ => rfl
 | .list _ _ c, a => rD (fun x => gN c x) a
 | .pair c d, a => by
   show (plW (c.enc a.1) && (plW (d.enc a.2) && true)) = true
   rw [gN c a.1, gN d a.2] <;> rfl
 | .triple c d e, a => by
   show (plW (c.enc a.1) && (plW (d.enc a.2.1) && (plW (e.enc a.2.2) && true))) = true
   rw [gN c a.1, gN d a.2.1, gN e a.2.2] <;> rfl
 | .option c, none => rfl
 | .option c, some x => gN c x
theorem ou : ∀ (cs : List Codec) (a : Codec.denoteAll cs), ls (Codec.encAll cs a) = true
 | [], _ => rfl
 | c :: cs, a => by
   show (plW (c.enc a.1) && ls (Codec.encAll cs a.2)) = true
   rw [gN c a.1, ou cs a.2] <;> rfl
theorem j6 : ∀ {xs : List WData} {d : WData}, d ∈ xs -> d.weight <= WData.weightAll xs
 | [], d, h => absurd h (by simp)
 | x :: r, d, h => by
   show d.weight <= x.weight + 1 + WData.weightAll r
   rcases List.mem_cons.mp h with e | m
   ·rw [e]
    omega
   ·have z := j6 m
    omega
def toV : Value -> V
 | .none => .non
 | .bool b => .bl b
 | .int i _ => .int i
 | .str x _ => .str x
 | .bytes b _ => .byt b
 | .ref a => .ref a
 | _ => .non
def OkU (A : List Addr) : Value -> Prop
 | .none => True
 | .bool _ => True
 | .int _ _ => True
 | .str _ _ => True
 | .bytes _ _ => True
 | .ref a => a ∈ A
 | _ => False
theorem OkU.mono {A B : List Addr} (h : ∀ a ∈ A, a ∈ B) : ∀ {u : Value}, OkU A u -> OkU B u := fun {u} x => by
 cases u with
 | ref a => exact h a x
 | none => trivial
 | bool b => trivial
 | int i t => trivial
 | str s t => trivial
 | bytes b t => trivial
 | _ => exact False.elim x
theorem vW {A : List Addr} {u : Value} (x : OkU A u) : RelV (toV u) u := by
 cases u with
 | ref a => rfl
 | none => rfl
 | bool b => rfl
 | int i t => exact ⟨t, rfl⟩
 | str s t => exact ⟨t, rfl⟩
 | bytes b t => exact ⟨t, rfl⟩
 | _ => exact False.elim x
theorem eV {A : List Addr} : ∀ {vs : List Value}, (∀ u ∈ vs, OkU A u) -> Vals (vs.map toV) vs
 | [], _ => .nil
 | u :: r, h => .cons (vW (h u (List.mem_cons_self ..))) (eV fun x hx => h x (List.mem_cons_of_mem _ hx))
def ArgOb (h : Heap) (A : List Addr) (a : Addr) : Prop := ∃ vs : List Value, vs.length <= sizeLine /\ (∀ u ∈ vs, OkU A u) /\
 (h.get? a = some { cls := .type "list", data := .seq vs.toArray } ∨ h.get? a = some { cls := .type "tuple", data := .seq vs.toArray })
theorem ArgOb.mono {h : Heap} {A B : List Addr} {a : Addr} (k : ∀ a ∈ A, a ∈ B) (x : ArgOb h A a) : ArgOb h B a := by
 obtain ⟨vs, h1, h2, h3⟩ := x
 exact ⟨vs, h1, fun u hu => (h2 u hu).mono k, h3⟩
theorem dR {P : Params} {h : Heap} : ∀ {vs : List Value} {ds : List WData}, WellAll P h vs ds -> vs.length = ds.length
 | _, _, .nil => rfl
 | _, _, .cons _ b => by
   show _ + 1 = _ + 1
   rw [dR b]
theorem oH {P : Params} {h : Heap} {v : Value} {ds : List WData} (x : Well P h v (.list ds)) : ∃ (a : Addr) (vs : List Value), v = .ref a /\ h.get? a = some { cls := .type "list", data := .seq vs.toArray } /\ WellAll P h vs ds := by
 cases x with
 | list ho hall => exact ⟨_, _, rfl, ho, hall⟩
theorem mF {P : Params} {h : Heap} {v : Value} {ds : List WData} (x : Well P h v (.tuple ds)) : ∃ (a : Addr) (vs : List Value), v = .ref a /\ h.get? a = some { cls := .type "tuple", data := .seq vs.toArray } /\ WellAll P h vs ds := by
 cases x with
 | tuple ho hall => exact ⟨_, _, rfl, ho, hall⟩
theorem oy {P : Params} {h : Heap} {us : List Value} {d : WData} {ds : List WData} (x : WellAll P h us (d :: ds)) : ∃ (v : Value) (vs : List Value), us = v :: vs /\ Well P h v d /\ WellAll P h vs ds := by
 cases x with
 | cons a b => exact ⟨_, _, rfl, a, b⟩
theorem tF {n : Nat} (h : n <= 1048576) : n <= sizeLine := Nat.le_trans h (by decide)
section
variable {P : Params} {h : Heap}
mutual
theorem vv : ∀ (d : WData) (v : Value), Well P h v d -> plW d = true -> d.weight <= 1048576 -> ∃ A : List Addr, OkU A v /\ ∀ a ∈ A, ArgOb h A a
 | .none, _, x, _, _ => by
   cases x
   exact ⟨[], trivial, fun a m => absurd m (by simp)⟩
 | .bool b, _, x, _, _ => by
   cases x
   exact ⟨[], trivial, fun a m => absurd m (by simp)⟩
 | .int i, _, x, _, _ => by
   cases x
   exact ⟨[], trivial, fun a m => absurd m (by simp)⟩
 | .str s, _, x, _, _ => by
   cases x
   exact ⟨[], trivial, fun a m => absurd m (by simp)⟩
 | .bytes b, _, x, _, _ => by
   cases x
   exact ⟨[], trivial, fun a m => absurd m (by simp)⟩
 | .list ds, _, x, p, z => by
   obtain ⟨a, vs, rfl, ho, hall⟩ := oH x
   have z2 : WData.weightAll ds <= 1048576 := z
   obtain ⟨A, h1, h2⟩ := jO ds _ hall p fun d hd => Nat.le_trans (j6 hd) z2
   have k : ∀ b ∈ A, b ∈ a :: A := fun b hb => List.mem_cons_of_mem _ hb
   refine ⟨a :: A, List.mem_cons_self .., fun b hb => ?_⟩
   rcases List.mem_cons.mp hb with e | m
   ·rw [e]
    exact ⟨vs, tF (by rw [dR hall]; exact Nat.le_trans (PySem.W.length_le_weightAllW ds) z2), fun u hu => (h1 u hu).mono k, .inl ho⟩
   ·exact (h2 b m).mono k
 | .tuple ds, _, x, p, z => by
   obtain ⟨a, vs, rfl, ho, hall⟩ := mF x
   have z2 : WData.weightAll ds <= 1048576 := z
   obtain ⟨A, h1, h2⟩ := jO ds _ hall p fun d hd => Nat.le_trans (j6 hd) z2
   have k : ∀ b ∈ A, b ∈ a :: A := fun b hb => List.mem_cons_of_mem _ hb
   refine ⟨a :: A, List.mem_cons_self .., fun b hb => ?_⟩
   rcases List.mem_cons.mp hb with e | m
   ·rw [e]
    exact ⟨vs, tF (by rw [dR hall]; exact Nat.le_trans (PySem.W.length_le_weightAllW ds) z2), fun u hu => (h1 u hu).mono k, .inr ho⟩
   ·exact (h2 b m).mono k
 | .float _, _, _, p, _ => Bool.noConfusion (show false = true from p)
 | .dict _, _, _, p, _ => Bool.noConfusion (show false = true from p)
 | .bytearray _, _, _, p, _ => Bool.noConfusion (show false = true from p)
 | .set _, _, _, p, _ => Bool.noConfusion (show false = true from p)
 | .frozenset _, _, _, p, _ => Bool.noConfusion (show false = true from p)
 | .obj _ _, _, _, p, _ => Bool.noConfusion (show false = true from p)
theorem jO : ∀ (ds : List WData) (vs : List Value), WellAll P h vs ds -> ls ds = true -> (∀ d ∈ ds, d.weight <= 1048576) -> ∃ A : List Addr, (∀ u ∈ vs, OkU A u) /\ ∀ a ∈ A, ArgOb h A a
 | [], _, x, _, _ => by
   cases x
   exact ⟨[], fun u m => absurd m (by simp), fun a m => absurd m (by simp)⟩
 | d :: ds, _, x, p, z => by
   obtain ⟨v, vs, rfl, x1, x2⟩ := oy x
   have q : plW d = true /\ ls ds = true := Bool.and_eq_true_iff.mp p
   obtain ⟨A, a1, a2⟩ := vv d v x1 q.1 (z d (List.mem_cons_self ..))
   obtain ⟨B, b1, b2⟩ := jO ds vs x2 q.2 fun e he => z e (List.mem_cons_of_mem _ he)
   have kA : ∀ b ∈ A, b ∈ A ++ B := fun b hb => List.mem_append.mpr (.inl hb)
   have kB : ∀ b ∈ B, b ∈ A ++ B := fun b hb => List.mem_append.mpr (.inr hb)
   refine ⟨A ++ B, fun u hu => ?_, fun b hb => ?_⟩
   ·rcases List.mem_cons.mp hu with e | m
    ·rw [e]
     exact a1.mono kA
    ·exact (b1 u m).mono kB
   ·rcases List.mem_append.mp hb with m | m
    ·exact (a2 b m).mono kA
    ·exact (b2 b m).mono kB
end
end
def xo (o : Obj) : Option HO := match o.data with
 | .seq vs _ => if (o.cls == Value.type "list") = true then some (.frz o (.lst (vs.toList.map toV))) else some (.frz o (.tup (vs.toList.map toV)))
 | _ => none
def fX (K : Frag) (h : Heap) (A : List Addr) : Hp := fun b => if b ∈ A then (if (K.lookup b).isNone = true then (h.get? b).bind xo else none) else none
def qD (H : Hp) : Prop := ∀ b, H b = none ∨ ∃ o u, H b = some (.frz o u)
theorem rf (vs : List Value) : xo { cls := .type "list", data := .seq vs.toArray } = some (.frz { cls := .type "list", data := .seq vs.toArray } (.lst (vs.map toV))) := by
 show (if (Value.type "list" == Value.type "list") = true then some (HO.frz { cls := .type "list", data := .seq vs.toArray } (.lst (vs.toArray.toList.map toV))) else some (HO.frz { cls := .type "list", data := .seq vs.toArray } (.tup (vs.toArray.toList.map toV)))) = _
 rw [if_pos (beq_self_eq_true _)]
theorem rm (vs : List Value) : xo { cls := .type "tuple", data := .seq vs.toArray } = some (.frz { cls := .type "tuple", data := .seq vs.toArray } (.tup (vs.map toV))) := by
 show (if (Value.type "tuple" == Value.type "list") = true then some (HO.frz { cls := .type "tuple", data := .seq vs.toArray } (.lst (vs.toArray.toList.map toV))) else some (HO.frz { cls := .type "tuple", data := .seq vs.toArray } (.tup (vs.toArray.toList.map toV)))) = _
 rw [if_neg (by decide)]
section
variable {P : Program} {w : World} {K : Frag} {h : Heap} {A : List Addr}
theorem lK {b : Addr} {o : Obj} (hb : b ∈ A) (hk : K.lookup b = none) (e : h.get? b = some o) : fX K h A b = xo o := by
 unfold fX
 rw [if_pos hb, hk, if_pos (show (none : Option Obj).isNone = true from rfl), e] <;> rfl
theorem wR {b : Addr} {u : HO} (q : fX K h A b = some u) : b ∈ A /\ K.lookup b = none := by
 unfold fX at q
 by_cases hb : b ∈ A
 ·rw [if_pos hb] at q
  cases hk : K.lookup b with
  | none => exact ⟨hb, rfl⟩
  | some o =>
    rw [hk, if_neg (by simp)] at q
    cases q
 ·rw [if_neg hb] at q
  cases q
theorem lE (ar : ∀ a ∈ A, ArgOb h A a) {b : Addr} {u : HO} (q : fX K h A b = some u) : K.lookup b = none /\ ∃ vs : List Value, vs.length <= sizeLine /\ (∀ u ∈ vs, OkU A u) /\
  ((h.get? b = some { cls := .type "list", data := .seq vs.toArray } /\ u = .frz { cls := .type "list", data := .seq vs.toArray } (.lst (vs.map toV))) ∨
   (h.get? b = some { cls := .type "tuple", data := .seq vs.toArray } /\ u = .frz { cls := .type "tuple", data := .seq vs.toArray } (.tup (vs.map toV)))) := by
 obtain ⟨hb, hk⟩ := wR q
 obtain ⟨vs, h1, h2, h3⟩ := ar b hb
 refine ⟨hk, vs, h1, h2, ?_⟩
 rcases h3 with e | e
 ·rw [lK hb hk e, rf] at q
  exact .inl ⟨e, (Option.some.inj q).symm⟩
 ·rw [lK hb hk e, rm] at q
  exact .inr ⟨e, (Option.some.inj q).symm⟩
theorem uk (ar : ∀ a ∈ A, ArgOb h A a) : qD (fX K h A) := fun b => by
 cases q : fX K h A b with
 | none => exact .inl rfl
 | some u =>
   obtain ⟨_, vs, _, _, ⟨_, e⟩ | ⟨_, e⟩⟩ := lE ar q
   ·exact .inr ⟨_, _, by rw [e]⟩
   ·exact .inr ⟨_, _, by rw [e]⟩
theorem xB (ar : ∀ a ∈ A, ArgOb h A a) : HOk P w (fX K h A) h := fun b u q => by
 obtain ⟨_, vs, h1, h2, ⟨e, rfl⟩ | ⟨e, rfl⟩⟩ := lE ar q
 ·exact ⟨e, by rw [List.length_map]; exact h1, vs, _, eV h2, e⟩
 ·exact ⟨e, by rw [List.length_map]; exact h1, vs, eV h2, _, e, rfl, _, rfl⟩
theorem lG {c c' : Value} {vs us : List Value} (e : (some { cls := c, data := .seq vs.toArray } : Option Obj) = some { cls := c', data := .seq us.toArray }) : c = c' /\ vs = us := by
 have e1 := Option.some.inj e
 have e2 : c = c' := congrArg Obj.cls e1
 have e3 : Data.seq vs.toArray = Data.seq us.toArray := congrArg Obj.data e1
 injection e3 with e4
 refine ⟨e2, ?_⟩
 have e5 := congrArg Array.toList e4
 simpa using e5
theorem Dl (KX : K.In h) (ar : ∀ a ∈ A, ArgOb h A a) {a : Addr} {vs : List Value} (ha : a ∈ A) (e : h.get? a = some { cls := .type "list", data := .seq vs.toArray }) : (∀ u ∈ vs, OkU A u) /\ SqL K (fX K h A) a (vs.map toV) := by
 obtain ⟨us, h1, h2, h3⟩ := ar a ha
 have hu : us = vs := by
  rcases h3 with q | q
  ·rw [e] at q
   exact (lG q).2.symm
  ·rw [e] at q
   exact absurd (Value.type.inj (lG q).1) (by decide)
 subst hu
 refine ⟨h2, ?_⟩
 cases hk : K.lookup a with
 | none => exact .inl (.inr ⟨_, by rw [lK ha hk e, rf]⟩)
 | some o =>
   have e2 := KX a o hk
   rw [e] at e2
   obtain rfl := Option.some.inj e2
   exact .inr ⟨_, us.toArray, _, hk, rfl, rfl, rfl, by rw [List.size_toArray]; exact h1, by simpa using eV h2⟩
theorem D6 (KX : K.In h) (ar : ∀ a ∈ A, ArgOb h A a) {a : Addr} {vs : List Value} (ha : a ∈ A) (e : h.get? a = some { cls := .type "tuple", data := .seq vs.toArray }) : (∀ u ∈ vs, OkU A u) /\ SqT K (fX K h A) a (vs.map toV) := by
 obtain ⟨us, h1, h2, h3⟩ := ar a ha
 have hu : us = vs := by
  rcases h3 with q | q
  ·rw [e] at q
   exact absurd (Value.type.inj (lG q).1) (by decide)
  ·rw [e] at q
   exact (lG q).2.symm
 subst hu
 refine ⟨h2, ?_⟩
 cases hk : K.lookup a with
 | none => exact .inl (.inr ⟨_, by rw [lK ha hk e, rm]⟩)
 | some o =>
   have e2 := KX a o hk
   rw [e] at e2
   obtain rfl := Option.some.inj e2
   exact .inr ⟨_, us.toArray, _, hk, rfl, rfl, by rw [List.size_toArray]; exact h1, by simpa using eV h2⟩
mutual
theorem A2 {Pm : Params} (KX : K.In h) (ar : ∀ a ∈ A, ArgOb h A a) : ∀ (d : WData) (v : Value), Well Pm h v d -> plW d = true -> OkU A v -> Dw K (fX K h A) (toV v) d
 | .none, _, x, _, _ => by
   cases x
   exact .non
 | .bool b, _, x, _, _ => by
   cases x
   exact .bl b
 | .int i, _, x, _, _ => by
   cases x
   exact .int i
 | .str s, _, x, _, _ => by
   cases x
   exact .str s
 | .bytes b, _, x, _, _ => by
   cases x
   have z := Dw.byt (K := K) (H := fX K h A) b.toArray
   exact z
 | .list ds, _, x, p, hu => by
   obtain ⟨a, vs, rfl, ho, hall⟩ := oH x
   obtain ⟨h2, hs⟩ := Dl KX ar hu ho
   exact .lst hs (pT KX ar ds _ hall p h2)
 | .tuple ds, _, x, p, hu => by
   obtain ⟨a, vs, rfl, ho, hall⟩ := mF x
   obtain ⟨h2, hs⟩ := D6 KX ar hu ho
   exact .tup hs (pT KX ar ds _ hall p h2)
 | .float _, _, _, p, _ => Bool.noConfusion (show false = true from p)
 | .dict _, _, _, p, _ => Bool.noConfusion (show false = true from p)
 | .bytearray _, _, _, p, _ => Bool.noConfusion (show false = true from p)
 | .set _, _, _, p, _ => Bool.noConfusion (show false = true from p)
 | .frozenset _, _, _, p, _ => Bool.noConfusion (show false = true from p)
 | .obj _ _, _, _, p, _ => Bool.noConfusion (show false = true from p)
theorem pT {Pm : Params} (KX : K.In h) (ar : ∀ a ∈ A, ArgOb h A a) : ∀ (ds : List WData) (vs : List Value), WellAll Pm h vs ds -> ls ds = true -> (∀ u ∈ vs, OkU A u) -> ge K (fX K h A) (vs.map toV) ds
 | [], _, x, _, _ => by
   cases x
   exact .nil
 | d :: ds, _, x, p, hu => by
   obtain ⟨v, vs, rfl, x1, x2⟩ := oy x
   have q : plW d = true /\ ls ds = true := Bool.and_eq_true_iff.mp p
   exact .cons (A2 KX ar d v x1 q.1 (hu _ (List.mem_cons_self ..))) (pT KX ar ds vs x2 q.2 fun u m => hu u (List.mem_cons_of_mem _ m))
end
end
theorem ue {P : Program} {w : World} {K : Frag} {mg mb : Str -> Option Value} {CX : CXT} {k : Nat} {fa : Addr} {fd : FuncData} {ps : List Str} {sp : Sp} {s₁ : Shared} {vals : List Value} {ds : List WData} {R : PySem.W.WRecords} {cl : Str -> Option Addr} {d0 : WData}
  (KX : K.In s₁.heap) (hns : s₁.heap.Ns mainGlobals mg) (hb : s₁.heap.Ns builtinsNs mb) (hbb : ∀ x : Str, x ≠ "__name__" -> mb x = bootBuiltins x) (hlim : s₁.heap.NoLimit) (hg : s₁.gens = #[])
  (hwl : WellAll w.params s₁.heap vals ds) (hpl : ls ds = true) (hwt : ∀ d ∈ ds, d.weight <= 1048576) (hr : Room k callerA)
  (F : ∀ base : Heap, K.In base -> base.Ns mainGlobals mg -> FnOk P w K mg base CX k fa fd ps sp) (hbind : ∀ (s : Shared) (us : List Value), us.length = ps.length -> BindsTo s fd ⟨us, []⟩ (ps.zip us)) (hlen : ds.length = ps.length)
  (hsp : ∀ (H : Hp) (xs : List V), qD H -> ge K H xs ds -> sp xs H (fun v H' => Dw K H' v d0) fun _ _ _ => False)
  (hCX : ∀ H e s', CX [] H s₁ (fun _ _ _ => False) e s' -> False) :
  codeAny (model P w) callerA (.call (.ref fa) ⟨vals, []⟩) (fun r s' => ∃ u as, r = .ok (.ret u) /\ ReadsW R cl s'.heap u d0 as /\ OldK s₁.heap s'.heap /\ s'.os = s₁.os /\ AllBare s'.gens) s₁ := by
 obtain ⟨A, ho, ar⟩ := jO ds vals hwl hpl hwt
 have hO : qD (fX K s₁.heap A) := uk ar
 have hok : HOk P w (fX K s₁.heap A) s₁.heap := xB ar
 have hS := pT KX ar ds vals hwl hpl ho
 have hV := eV ho
 have hK : ∀ b u, fX K s₁.heap A b = some u -> K.lookup b = none := fun b u q => (lE ar q).1
 have noA : ∀ {b : Addr} {o : Obj} {es : Array DictEntry} {ep : Nat}, s₁.heap.get? b = some o -> o.data = .dict es ep -> fX K s₁.heap A b = none := fun {b o es ep} e d => by
  cases q : fX K s₁.heap A b with
  | none => rfl
  | some u =>
    obtain ⟨_, vs, _, _, ⟨e2, _⟩ | ⟨e2, _⟩⟩ := lE ar q
    ·rw [e2] at e
     cases e
     have d' : Data.seq vs.toArray _ = Data.dict es ep := d
     cases d'
    ·rw [e2] at e
     cases e
     have d' : Data.seq vs.toArray _ = Data.dict es ep := d
     cases d'
 generalize fX K s₁.heap A = H at hO hok hS hK noA
 have base_of : ∀ {b : Addr} {o : Obj}, s₁.heap.get? b = some o -> H b = none -> (ph s₁.heap H).get? b = some o := fun e n => vJ e n
 have nsK : ∀ {b : Addr} {m : Str -> Option Value}, s₁.heap.Ns b m -> (ph s₁.heap H).Ns b m := fun {b m} ⟨o, es, ep, e, d, r⟩ => ⟨o, es, ep, base_of e (noA e d), d, r⟩
 have nK : ∀ b o, K.lookup b = some o -> H b = none := fun b o e => by
  cases q : H b with
  | none => rfl
  | some u =>
    rw [hK b u q] at e
    cases e
 have hKb : K.In (ph s₁.heap H) := fun b o e => base_of (KX b o e) (nK b o e)
 have hM : Mod K mg (ph s₁.heap H) := ⟨hKb, nsK hns, ⟨mb, nsK hb, hbb⟩, let ⟨mc, h1, h2⟩ := hlim; ⟨mc, nsK h1, h2⟩⟩
 have e0 : Env0 P w K mg (ph s₁.heap H) callerA [] s₁ H := ⟨rfl, hM, fun b o e => xw e, Nat.le_of_eq (uj _ _), trivial, fun b hb => absurd (show b ∈ ([] : List Addr) from hb) (by simp), hok, .of_eq hg⟩
 have hl : vals.length = ps.length := by rw [dR hwl]; exact hlen
 refine codeAny_mono ((F _ hKb (nsK hns)).run callerA [] s₁ H ⟨vals, []⟩ vals (vals.map toV) _ _ hr e0 (hbind s₁ vals hl) hV (hsp H _ hO hS)) fun r s' x => ?_
 cases r with
 | error e => exact (hCX H e s' x).elim
 | ok fl =>
   cases fl with
   | next => exact False.elim x
   | brk => exact False.elim x
   | cont => exact False.elim x
   | ret u =>
     obtain ⟨v, H', os, bare, un, hok', r', q⟩ := x
     have kept : ∀ b o, s₁.heap.get? b = some o -> s'.heap.get? b = some o := fun b o e => by
      cases q2 : H b with
      | none => exact un.keep b o e q2 (by intro z; exact absurd (show b ∈ ([] : List Addr) from z) (by simp)) (by simp)
      | some u2 =>
        rcases hO b with z | ⟨ob, u3, z⟩
        ·rw [q2] at z
         cases z
        ·have z2 := un.frzs b ob _ z
         obtain ⟨e1, _⟩ := hok b _ z
         obtain ⟨e2, _⟩ := hok' b _ z2
         rw [e] at e1
         cases e1
         exact e2
     have KX' : K.In s'.heap := fun b o e => kept b o (KX b o e)
     obtain ⟨as, hrd⟩ := Dw.reads (R := R) (cl := cl) hok' KX' d0 v u q r'
     exact ⟨u, as, rfl, hrd, OldK.of_keep kept, os, bare⟩
theorem ni {ds : List WData} (h : WData.layableAll ds = true) : ∀ d ∈ ds, d.weight <= 1048576 := fun d hd =>
 (PySem.W.layableW_iff.mp (List.all_eq_true.mp h d hd)).2.2
theorem lV : ∀ (cs : List Codec) (a : Codec.denoteAll cs), (Codec.encAll cs a).length = cs.length
 | [], _ => rfl
 | c :: cs, a => by
   show (Codec.encAll cs a.2).length + 1 = cs.length + 1
   rw [lV cs a.2]
theorem uD {r : OpenSpec} {k : Nat} {q : Program} {loose : List Str} {XP : (Str -> Option Value) -> Heap -> Prop} {YP : World -> Heap -> Prop} {d : DefRec} {K : Params -> Frag} {CX : World -> CXT} {ps : List Str} {sp : World -> Sp}
  (hwell : r.wellSaid = true) (hdf : d.params.defaults = []) (hlen : r.args.length = ps.length) (hr : Room k callerA)
  (hY : ∀ (w : World) (h : Heap), YP w h -> (K w.params).In h)
  (F : ∀ (w : World) (mg : Str -> Option Value) (fa : Addr) (h : Heap), YP w h -> (K w.params).In h -> h.Ns mainGlobals mg -> mg d.name = some (.ref fa) ->
   ∃ fd : FuncData, (∀ (s : Shared) (us : List Value), us.length = ps.length -> BindsTo s fd ⟨us, []⟩ (ps.zip us)) /\
     ∀ base : Heap, (K w.params).In base -> base.Ns mainGlobals mg -> FnOk r.prog w (K w.params) mg base (CX w) k fa fd ps (sp w))
  (hsp : ∀ (w : World) (H : Hp) (xs : List V) (a : Codec.denoteAll r.args), qD H -> Codec.withinAll r.args a = true -> Codec.app r.args r.asked a = true -> ge (K w.params) H xs (Codec.encAll r.args a) ->
   sp w xs H (fun v H' => Dw (K w.params) H' v (r.ret.enc (Codec.app r.args r.f a))) fun _ _ _ => False)
  (hCX : ∀ (w : World) (H : Hp) (s : Shared) (e : Value) (s' : Shared), CX w [] H s (fun _ _ _ => False) e s' -> False) :
  PySem.W.WalkOS q loose XP YP r d [] (fun f vs => PySem.call f vs) := by
 intro w s_0 s₁ mg mb G Y fa o pm cd doc dV kV ho hd hcd hD hmg hg args vals as hpre hlay hrd hwl hlo
 obtain ⟨a, e1, e2⟩ := PySem.W.os_pre_some hpre
 obtain ⟨e3, hwi⟩ := Codec.encAll_of_decAll r.args args a e1
 subst e3
 have KX := hY w _ Y
 obtain ⟨fd, hb, hF⟩ := F w mg fa _ Y KX G.T.g hmg
 refine PySem.W.enter_call (codeAny_mono (ue (R := []) (cl := classAt s_0.heap) (d0 := r.ret.enc (Codec.app r.args r.f a)) KX G.T.g G.T.b G.T.builtins G.T.nolimit hg hwl (ou _ _) (ni hlay) hr hF hb (by rw [lV]; exact hlen)
  (fun H xs hO hS => hsp w H xs a hO hwi e2 hS) fun H e s' => hCX w H s₁ e s') fun r' s' hq => ?_)
 obtain ⟨u, as', rfl, h1, h2, h3, h4⟩ := hq
 exact ⟨.inl ⟨u, _, as', rfl, fun _ => rfl, h1, (OpenSpec.post_iff hwell hwi _ _).mpr rfl, fun z => Bool.noConfusion (show false = true from z)⟩, h2, h3, h4⟩
end L2
end
namespace L2
open PySem
structure nh (B : String) (bm : List Value) : Prop where
 hasB : bm.contains (.type B) = true
 noAttr : bm.contains (.type "AttributeError") = false
 noName : bm.contains (.type "NameError") = false
 hasBase : bm.contains (.type "BaseException") = true
section
variable {M : Model} {prog : Program} {w : World} {A : Around} {E : Value -> Shared -> Prop} {h : Heap} {g : Array GenState} {d : Drawn} {t : Nat} {os : OsState}
variable {nm qn : Str} {C N : Addr} {bs bm bmB : List Value} {hdct : Bool} {sn : List Str} {sub : List Value} {ab : Bool} {col : Option Bool} {dd : Option Addr} {k0 k1 k2 k3 k5 : Option Value} {B newId initId : String}
theorem pC (F : ExcBaseFacts B newId initId bmB) (T : nh B bm) {rest : List Value} {Q : Unit -> Shared -> Prop}
  (hC : h.get? C = some (excClassObj nm qn C N bs bm hdct sn sub ab col dd k0 k1 k2 k3 k5 newId)) (hq : Q () ⟨h, g, d, t, os⟩) :
  wpAny M A (checkBuiltinCall newId ⟨.ref C :: rest, []⟩) Q E ⟨h, g, d, t, os⟩ := by
 have hc : (Value.ref C :: bm).contains (.type B) = true := by rw [List.contains_cons, T.hasB, Bool.or_true]
 have hs := F.noStar
 simp only [checkBuiltinCall, F.newKind, F.newSplit, F.newRow]
 repeat (first
  | refine wpAny_loadPart_at hC ?_
  | (refine wpAny_isSubtype_exc hC ?_; rw [hc])
  | refine wpAny_staticBase_exc hC ?_
  | refine wpAny_madeBy_exc hC ?_
  | simp only [bne_self_eq_false, Bool.false_eq_true, if_false]
  | wp_step)
 exact hq
theorem z9 (F : ExcBaseFacts B newId initId bmB) (T : nh B bm) {rest : List Value} {R : Result -> Shared -> Prop}
  (hC : h.get? C = some (excClassObj nm qn C N bs bm hdct sn sub ab col dd k0 k1 k2 k3 k5 newId))
  (hq : R (.ok (.ret (.ref (h.objs.size + 1)))) ⟨(h.push { cls := .type "tuple", data := .seq rest.toArray }).push
   { cls := .ref C, data := .fields #[.ref h.objs.size, .none, .none, .none, .bool false, .none] }, g, d, t, os⟩)
  (hr : rest.length <= sizeLine) : codeAny (model prog w) A (.builtin newId ⟨.ref C :: rest, []⟩) R ⟨h, g, d, t, os⟩ := by
 have he := F.ends
 have c1 : (Value.ref C :: bm).contains (.type B) = true := by rw [List.contains_cons, T.hasB, Bool.or_true]
 have c2 : (Value.ref C :: bm).contains (.type "AttributeError") = false := by rw [List.contains_cons, T.noAttr]; rfl
 have c3 : (Value.ref C :: bm).contains (.type "NameError") = false := by rw [List.contains_cons, T.noName]; rfl
 refine codeAny_builtinAt F.entry ?_
 unfold Builtin.«BaseException.__new__»
 refine wpAt_bind ?_
 show wpAt _ _ _ (stack >>= _) _ _ _
 refine wpAt_bind (wpAt_stack fun p below => wpAt_of_wpAny ?_)
 wp_walk
 refine wpAt_of_wpAny ?_
 rw [F.owner]
 repeat (first
  | with_reducible refine wpAny_madeHere_exc F.canon hC ?_
  | with_reducible refine wpAny_loadPart_at hC ?_
  | (with_reducible refine wpAny_isSubtype_exc hC ?_; first | rw [c1] | rw [c2] | rw [c3])
  | wp_step)
 show R _ _
 rw [Heap.size_push]
 exact hq
theorem qi (F : ExcBaseFacts B newId initId bmB) (T : nh B bm) {rest : List Value} {fI : Addr} {oI : Obj} {Q : Fin -> Shared -> Prop}
  (hC : h.get? C = some (excClassObj nm qn C N bs bm hdct sn sub ab col dd k0 k1 k2 k3 k5 newId))
  (hi : PySem.W.Looks (model prog w) h (typeLookup (.ref C) "__init__") (some (.ref fI))) (hfI : h.get? fI = some oI) (hfc : oI.cls = .type "function")
  (hq : ∀ h' e, h.objs.size <= e -> Heap.MadeExcOf h h' e (.ref C) rest ->
   wpAny (model prog w) A (call (.ref fI) (.ref e :: rest)) (fun r s' => r = .none /\ Q (.done (.ret (.ref e))) s') E ⟨h', g, d, t, os⟩) (hr : rest.length <= sizeLine) :
  wpAny (model prog w) A (Builtin.«type.__call__» ⟨.ref C :: rest, []⟩) Q E ⟨h, g, d, t, os⟩ := by
 repeat (first | with_reducible refine wpAny_loadPart_at hC ?_ | with_reducible refine wpAny_madeBy_exc hC ?_ | wp_step)
 refine codeAny_call_builtin_code (Code.quiet_builtin _ F.quiet) (pC F T hC ?_)
 refine z9 F T hC ?_ hr
 show wpAny _ _ _ _ _ _
 let ot : Obj := { cls := .type "tuple", data := .seq rest.toArray }
 let oe : Obj := { cls := .ref C, data := .fields #[.ref h.objs.size, .none, .none, .none, .bool false, .none] }
 have kp : ∀ b o, h.get? b = some o -> ((h.push ot).push oe).get? b = some o := fun b o hb => Heap.get?_push_of_some _ (Heap.get?_push_of_some _ hb)
 have hC1 := kp _ _ hC
 have hf1 := kp _ _ hfI
 have hget : ((h.push ot).push oe).get? (h.objs.size + 1) = some oe := by
  have z := Heap.get?_push_size (h.push ot) (o := oe) rfl
  rwa [Heap.size_push] at z
 have hcC : (Value.ref C :: bm).contains (.ref C) = true := by simp
 unfold isInstance
 repeat (first | with_reducible refine wpAny_loadPart_at hget ?_ | (with_reducible refine wpAny_isSubtype_exc hC1 ?_; rw [hcC]) | wp_step)
 show wpAny _ _ (typeLookup (.ref C) _) _ _ _
 refine hi _ _ _ _ kp ?_
 refine wpAny_holding (wpAny_bind ?_)
 unfold bindSpecial
 refine wpAny_bind (wpAny_typeOf (T := "function") ⟨_, hf1, hfc⟩ ?_)
 rw [if_pos (by decide)]
 refine wpAny_pure (wpAny_bind (wpAny_mono (hq _ (h.objs.size + 1) (Nat.le_succ _) ⟨kp, Heap.get?_none_of_le (Nat.le_succ _), h.objs.size, hget, Heap.get?_none_of_le (Nat.le_refl _), ?_⟩) (fun r s' z => ?_) fun _ _ x => x))
 ·exact Heap.get?_push_of_some _ (Heap.get?_push_at rfl rfl)
 ·obtain ⟨rfl, hQ⟩ := z
  wp_walk
  exact hQ
theorem wF (F : ExcBaseFacts B newId initId bmB) (T : nh B bm) {rest : List Value} {fI : Addr} {oI : Obj} {Q : Value -> Shared -> Prop}
  (hC : h.get? C = some (excClassObj nm qn C N bs bm hdct sn sub ab col dd k0 k1 k2 k3 k5 newId))
  (hi : PySem.W.Looks (model prog w) h (typeLookup (.ref C) "__init__") (some (.ref fI))) (hfI : h.get? fI = some oI) (hfc : oI.cls = .type "function")
  (hq : ∀ h' e, h.objs.size <= e -> Heap.MadeExcOf h h' e (.ref C) rest ->
   wpAny (model prog w) (A.under (.builtin "type.__call__" ⟨.ref C :: rest, []⟩)) (call (.ref fI) (.ref e :: rest)) (fun r s' => r = .none /\ Q (.ref e) s') E ⟨h', g, d, t, os⟩) (hr : rest.length <= sizeLine) :
  wpAny (model prog w) A (call (.ref C) rest) Q E ⟨h, g, d, t, os⟩ := by
 have f1 := tc_lookup
 have f2 := tc_bind (.ref C)
 have hT : (⟨h, g, d, t, os⟩ : Shared).TypeIs (.ref C) "type" := ⟨_, hC, rfl⟩
 refine wpAny_call (codeAny_of_tree ?_)
 show wpAny _ _ (callAny (.ref C) _) _ _ _
 repeat (any_goals (first | assumption | with_reducible refine wpAny_loadPart_at hC ?_ | wp_step))
 refine ⟨rfl, ?_⟩
 refine codeAny_call_builtin_at (Code.quiet_builtin _ (by decide +kernel)) entry_typeCall (wpAny_check_type_call_sub hC (qi F T hC hi hfI hfc (fun h' e hz hm => ?_) hr))
 exact hq h' e hz hm
end
end L2
namespace L2
open PySem PySem.W PySem.Calls PyProof.Rows Builtin Builtin.ObjectAttr
def cg : List Value -> Bool
 | [.type a, .type b, .type c] => a == "Exception" && (b == "BaseException" && c == "object")
 | .ref _ :: r => cg r
 | _ => false
theorem er : ∀ {l : List Value}, cg l = true -> (∃ c r, l = .ref c :: r /\ cg r = true) ∨ l = [.type "Exception", .type "BaseException", .type "object"]
 | [], e => by cases e
 | .ref c :: r, e => .inl ⟨c, r, rfl, by cases r <;> first | exact e | cases e⟩
 | [.type a, .type b, .type c], e => by
   have e : (a == "Exception" && (b == "BaseException" && c == "object")) = true := e
   simp only [Bool.and_eq_true, beq_iff_eq] at e
   obtain ⟨rfl, rfl, rfl⟩ := e
   exact .inr rfl
theorem rF (self : Value) : refuseLoop self "__setattr__" [.type "Exception", .type "BaseException", .type "object"] = pure () := by kernel_rfl
theorem mO (self : Value) : ∀ {l : List Value}, cg l = true -> refuseLoop self "__setattr__" l = pure ()
 | l, e => by
   rcases er e with ⟨c, r, rfl, e'⟩ | rfl
   ·rw [refuseLoop_ref]; exact mO self e'
   ·exact rF self
theorem gT : ∀ {l : List Value}, cg l = true -> l.contains (.type "object") = true /\ l.contains (.type "BaseException") = true /\ l.isEmpty = false
 | l, e => by
   rcases er e with ⟨c, r, rfl, e'⟩ | rfl
   ·obtain ⟨h1, h2, _⟩ := gT e'
    exact ⟨by rw [List.contains_cons, h1, Bool.or_true], by rw [List.contains_cons, h2, Bool.or_true], rfl⟩
   ·exact ⟨by decide +kernel, by decide +kernel, rfl⟩
section
variable {prog : Program} {w : World} {A : Around} {s : Shared} {K : Frag} {C x dx : Addr} {ox : Obj} {od : Option Obj} {cd : ClassData} {name : Str} {tk : Tok} {v : Value} {R : Result -> Shared -> Prop}
theorem uW (X : K.In s.heap) (I : InstAt s.heap x ox C od) (hc : clsIn K C = some cd) (hm : cg cd.mro = true) (ha : findIn K (.ref C) name = some none)
  (h : wpAny (model prog w) A.in1 (storeInOwnDict (.ref x) (.ref C) (.str name tk) name v false)
   (fun fin s' => match fin with | .done f => R (.ok f) s' | .again c' => c'.quiet = true /\ codeAny (model prog w) A c' R s') (fun e s' => R (.error e) s') s) :
  codeAny (model prog w) A (.call (.builtin "object.__setattr__") ⟨[.ref x, .str name tk, v], []⟩) R s := by
 have SF := PySem.F.store_object
 obtain ⟨h1, h2, h3⟩ := gT hm
 have sub : Looks (model prog w) s.heap (isInstance (.ref x) (.type "object")) true :=
  I.type.andThen (looks_mroIn X (by unfold mroIn; rw [hc, Option.bind_some, if_neg (by rw [h3]; decide), h1]))
 refine codeAny_call_builtin SF.slot.plain SF.entry
  (@check_slot (model prog w) _ _ s "object.__setattr__" "object" "__setattr__" (.ref x) [.str name tk, v] [] _ SF.kind SF.split sub (SF.args (.ref x) (.str name tk) v) ?_)
 have lm : Looks (model prog w) s.heap (mroOf (.ref C)) cd.mro := (looks_clsIn X hc).andThen .now
 have lt : Looks (model prog w) s.heap (storeTaker? none) none := .now
 rw [osa_eq, refuse_eq]
 refine wpAny_bind (wpAny_bind (I.type.here (wpAny_bind (lm.here ?_))))
 rw [mO _ hm]
 exact wpAny_pure (wpAny_bind (I.type.here (wpAny_bind ((looks_findIn X ha).here (wpAny_bind (lt.here h))))))
theorem xf {E : Value -> Shared -> Prop} {Q : Unit -> Shared -> Prop} {fs : Array Value} (X : K.In s.heap) (hx : s.heap.get? x = some { cls := .ref C, data := .fields fs }) (hc : clsIn K C = some cd) (hm : cg cd.mro = true) (hh : cd.hasDict = true)
  (ha : findIn K (.ref C) name = some none) (hs : findIn K (.ref C) "__setattr__" = some (some (.builtin "object.__setattr__")))
  (h : ∀ h', h'.get? x = some { cls := .ref C, dict := some s.heap.objs.size, data := .fields fs } -> h'.Ns1 s.heap.objs.size (fun y => if y = name then some v else none) ->
   (∀ b o, b ≠ x -> s.heap.get? b = some o -> h'.get? b = some o) -> Q () { s with heap := h', toks := s.toks + 2 }) :
  wpAny (model prog w) A (setAttr (.ref x) name v) Q E s := by
 have I : InstAt s.heap x { cls := .ref C, data := .fields fs } C none := ⟨hx, rfl, rfl, trivial⟩
 refine set_plain X I hs (uW (s := { s with toks := s.toks + 1 }) X I hc hm ha ?_)
 let s1 : Shared := { s with toks := s.toks + 1 }
 refine wpAny_bind (wpAny_pure (wpAny_bind (wpAny_bind (wpAny_loadPart (s := s1) hx (wpAny_bind (Looks.here (s := s1) (looks_clsIn X hc) ?_))))))
 rw [hh]
 refine wpAny_bind (wpAny_alloc ?_)
 have hx1 : (s.heap.push emptyDict).get? x = some { cls := .ref C, data := .fields fs } := Heap.get?_push_of_some _ hx
 refine wpAny_bind (wpAny_update (s := { s1 with heap := s.heap.push emptyDict }) hx1 ?_)
 refine wpAny_pure (a := some s.heap.objs.size) (wpAny_bind (wpAny_pure (wpAny_bind ?_)))
 have ne : s.heap.objs.size ≠ x := Nat.ne_of_gt (Heap.lt_size hx)
 have e1 : (s.heap.push emptyDict).get? s.heap.objs.size = some emptyDict := Heap.get?_push_size s.heap rfl
 have e3 : (s.heap.push emptyDict).Ns s.heap.objs.size (fun _ => none) := ⟨emptyDict, #[], _, e1, rfl, (fun e he => absurd he (by simp)), fun _ => rfl⟩
 have u1 : ((s.heap.push emptyDict).update x fun o => { o with dict := some s.heap.objs.size }).get? x = some { cls := .ref C, dict := some s.heap.objs.size, data := .fields fs } := Heap.get?_update_self _ hx1 rfl
 have u2 : ∀ b, b ≠ x -> ((s.heap.push emptyDict).update x fun o => { o with dict := some s.heap.objs.size }).get? b = (s.heap.push emptyDict).get? b := fun b hb => Heap.get?_update_other _ _ (Ne.symm hb)
 have n1 : ((s.heap.push emptyDict).update x fun o => { o with dict := some s.heap.objs.size }).Ns1 s.heap.objs.size (fun _ => none) :=
  (Heap.Ns1.of_empty e3).at fun o q => (u2 _ ne).trans q
 refine wpAny_nsSet1 (s := { s1 with heap := (s.heap.push emptyDict).update x fun o => { o with dict := some s.heap.objs.size } }) n1 fun h' hn2 hs2 => ?_
 obtain ⟨oD, esD, epD, hoD, hdD, hcD⟩ := hn2.count (PySem.Within.cons name v (ns := []) (fun y hy => absurd rfl hy))
 refine wpAny_bind (wpAny_lookBehind hoD (by rw [hdD]; exact pastItsLine_dict (Nat.le_trans hcD (by show 1 <= _; rw [sizeLine_eq]; omega))) ?_)
 refine wpAny_pure (h _ ((hs2.2 _ (Ne.symm ne)).trans u1) hn2 fun b o hb e => ?_)
 have hbd : b ≠ s.heap.objs.size := Nat.ne_of_lt (Heap.lt_size e)
 exact (hs2.2 b hbd).trans ((u2 b hb).trans (Heap.get?_push_of_some _ e))
theorem xt {E : Value -> Shared -> Prop} {Q : Unit -> Shared -> Prop} {fs : Array Value} {mA : Str -> Option Value} {ns : List Str} (X : K.In s.heap) (hx : s.heap.get? x = some { cls := .ref C, dict := some dx, data := .fields fs }) (hn : s.heap.Ns1 dx mA) (hne : dx ≠ x)
  (hw : PySem.Within mA ns) (hsz : ns.length <= 1000) (hc : clsIn K C = some cd) (hm : cg cd.mro = true) (hh : cd.hasDict = true)
  (ha : findIn K (.ref C) name = some none) (hs : findIn K (.ref C) "__setattr__" = some (some (.builtin "object.__setattr__")))
  (h : ∀ h', h'.get? x = some { cls := .ref C, dict := some dx, data := .fields fs } -> h'.Ns1 dx (fun y => if y = name then some v else mA y) ->
   (∀ b o, b ≠ dx -> s.heap.get? b = some o -> h'.get? b = some o) -> Q () { s with heap := h', toks := s.toks + 2 }) :
  wpAny (model prog w) A (setAttr (.ref x) name v) Q E s := by
 obtain ⟨odd, hod, _⟩ := kl hn
 have I : InstAt s.heap x { cls := .ref C, dict := some dx, data := .fields fs } C (some odd) := ⟨hx, rfl, rfl, hod⟩
 refine set_plain X I hs (uW (s := { s with toks := s.toks + 1 }) X I hc hm ha ?_)
 let s1 : Shared := { s with toks := s.toks + 1 }
 refine wpAny_bind (wpAny_pure (wpAny_bind (wpAny_bind (wpAny_loadPart (s := s1) hx (wpAny_bind (Looks.here (s := s1) (looks_clsIn X hc) ?_))))))
 rw [hh]
 refine wpAny_pure (a := some dx) (wpAny_bind (wpAny_pure (wpAny_bind ?_)))
 refine wpAny_nsSet1 (s := s1) hn fun h' hn2 hs2 => ?_
 obtain ⟨oD, esD, epD, hoD, hdD, hcD⟩ := hn2.count (PySem.Within.cons name v hw)
 refine wpAny_bind (wpAny_lookBehind hoD (by rw [hdD]; exact pastItsLine_dict (Nat.le_trans hcD (by rw [List.length_cons, sizeLine_eq]; omega))) ?_)
 exact wpAny_pure (h _ ((hs2.2 _ (Ne.symm hne)).trans hx) hn2 fun b o hb e => (hs2.2 b hb).trans e)
theorem B2 {E : Value -> Shared -> Prop} {Q : Value -> Shared -> Prop} {expr : Bool} (X : K.In s.heap) (I : InstAt s.heap x ox C od) (hc : clsIn K C = some cd) (hm : cg cd.mro = true)
  (hga : findIn K (.ref C) "__getattribute__" = some (some (.builtin "BaseException.__getattribute__"))) (hgt : findIn K (.ref C) "__getattr__" = some none)
  (hf : findObj K C od name = some (.value v)) (hv : handedIn v = true) (h : Q v { s with toks := s.toks + 1 }) : wpAny (model prog w) A (getAttr (.ref x) name expr) Q E s := by
 have hx0 : (expr && onTheHeap (Value.builtin "BaseException.__getattribute__")) = false := by cases expr <;> rfl
 have hx1 : (onTheHeap (Value.ref C) && Value.builtin "BaseException.__getattribute__" == Value.builtin "object.__getattribute__") = false := by
  rw [show (Value.builtin "BaseException.__getattribute__" == Value.builtin "object.__getattribute__") = false from by decide +kernel]; rfl
 obtain ⟨h1, h2, h3⟩ := gT hm
 let s1 : Shared := { s with toks := s.toks + 1 }
 have lT : Looks (model prog w) s1.heap (typeOf (.ref x)) (.ref C) := I.type
 have lF : Looks (model prog w) s1.heap (find (.ref x) (.ref C) name) (.value v) := looks_find X I hf
 have sub : Looks (model prog w) s1.heap (isInstance (.ref x) (.type "BaseException")) true :=
  I.type.andThen (looks_mroIn X (by unfold mroIn; rw [hc, Option.bind_some, if_neg (by rw [h3]; decide), h2]))
 refine wpAny_bind (wpAny_mkText (wpAny_holding (wpAny_bind (lT.here (wpAny_bind ((looks_findIn (h := s1.heap) X hga).here ?_))))))
 dsimp only
 rw [hx1, if_neg (by decide)]
 have lH : Looks (model prog w) s1.heap (hookBefore (.ref C)) none := looks_findIn X hgt
 refine wpAny_bind (lH.here (wpAny_bind (wpAny_attempt (wpAny_holding ?_))))
 unfold callGetattribute
 rw [hx0, if_neg (by decide)]
 unfold boundAndCalled
 rw [PySem.F.attr_Exception.ga.bind]
 refine wpAny_bind (wpAny_pure ?_)
 show wpAny _ _ (call (.builtin "BaseException.__getattribute__") [.ref x, .str name s.toks]) _ _ _
 refine wpAny_call (codeAny_call_builtin PySem.F.attr_Exception.ga.plain F.entry_bexc_ga ?_)
 refine @check_slot (model prog w) _ _ s1 "BaseException.__getattribute__" "BaseException" "__getattribute__" (.ref x) [.str name s.toks] [] _ (by decide +kernel) (by decide +kernel) sub (F.args_bexc_ga (.ref x) (.str name s.toks)) ?_
 refine wpAny_bind (wpAny_pure (wpAny_bind (wpAny_pure (wpAny_bind (lT.here (wpAny_bind (lF.here ?_)))))))
 refine wpAny_pure ?_
 show wpAny _ _ (handedOut v) _ _ _
 rw [handedOut_of hv]
 exact wpAny_pure h
end
end L2
namespace L2
open PySem
def dS (n : Nat) (h base : Heap) (e : Addr) (cls : Value) (dct : Option Addr) (fl : Value) : Prop :=
 ∃ oe vs T oT ts, h.get? e = some oe /\ (oe.cls = cls /\ oe.dict = dct) /\ oe.data = .fields vs /\ vs[1]? = some (.ref T) /\
   (base.get? T = none /\ n <= T) /\ T ≠ e /\ h.get? T = some oT /\ oT.data = .fields ts /\ ts[3]? = some fl
def StirX (h h' : Heap) : Prop := ∀ b o, h.get? b = some o -> (∀ vs, o.data ≠ .fields vs) -> ∃ sl, h'.get? b = some { o with slots := sl }
def jg (n : Nat) (base : Heap) (l : List Env) (e : Addr) (cls : Value) (dct : Option Addr) (fl : Value) (h h' : Heap) : Prop :=
 base.StaysIn h' /\ h'.FunFrames base l /\ dS n h' base e cls dct fl /\ StirX h h'
theorem uA (f : Array Value -> Array Value) (o : Obj) : (o.mapFields f).dict = o.dict := by
 obtain ⟨c, d, dt, sl⟩ := o
 cases dt <;> rfl
section
variable {M : Model} {A : Around} {E : Value -> Shared -> Prop} {s : Shared} {base : Heap} {env : Env} {outer : List Env} {L e : Addr} {Q : Unit -> Shared -> Prop} {n : Nat}
theorem vQ {oe : Obj} {vs : Array Value} {head : Value} {hadNext : Bool}
  (hfr : A.frames = some (env :: outer)) (hl : s.heap.FunFrames base (env :: outer)) (hf : env.frame = some L)
  (he : s.heap.get? e = some oe) (hkb : base.StaysIn s.heap) (hen : base.get? e = none) (hd : oe.data = .fields vs) (hsz : 1 < vs.size) (hn : n <= s.heap.objs.size)
  (h : ∀ h', jg n base (env :: outer) e oe.cls oe.dict (rawInt L) s.heap h' -> Q () { s with heap := h' }) :
  wpAny M A (do
   let a <- frameOf env
   let pl <- entryPlaceOf L hadNext
   let b <- EntryCells.newEntry head a .none (rawInt L) .none pl
   setField (.ref e) 1 b) Q E s := by
 have hene : e ∉ (env :: outer).filterMap (·.frame) := fun hm => by
  obtain ⟨_, o, ho, hnf⟩ := hl.mem hm
  rw [he] at ho
  injection ho with ho
  subst ho
  exact hnf vs hd
 refine wpAny_bind (wpAny_frameOf_fun hfr hl hf fun h1 hs1 => ?_)
 refine wpAny_bind (wpAny_entryPlaceOf fun pl hpl => ?_)
 unfold EntryCells.newEntry newFields
 refine wpAny_bind (wpAny_newObj_type ?_ (hpl.sizeOk5 _ _ _ _ _))
 let oN : Obj := { cls := .type "traceback", dict := none, data := .fields ([head, .ref L, .none, rawInt L, .none] ++ (if pl.isEmpty then List.replicate 6 Value.none else pl)).toArray }
 have e1 : h1.get? e = some oe := (hs1.2.1 e hene).trans he
 have k1 : base.StaysIn h1 := fun b o hbo => (hs1.2.1 b fun hm => by rw [(hl.mem hm).1] at hbo; cases hbo).trans (hkb b o hbo)
 have e2 : (h1.push oN).get? e = some oe := Heap.get?_push_of_some _ e1
 refine wpAny_setField e2 hd hsz (h _ ?_)
 have hTe : h1.objs.size ≠ e := Nat.ne_of_gt (Heap.lt_size e1)
 have d3 := Obj.data_mapFields hd (·.setIfInBounds 1 (Value.ref h1.objs.size))
 have e3 := Heap.get?_update_self (Obj.mapFields (·.setIfInBounds 1 (Value.ref h1.objs.size))) e2 (Obj.isFreed_of_fields d3)
 have t3 : ((h1.push oN).update e (Obj.mapFields (·.setIfInBounds 1 (Value.ref h1.objs.size)))).get? h1.objs.size = some oN :=
  (Heap.get?_update_other (h1.push oN) (Obj.mapFields (·.setIfInBounds 1 (Value.ref h1.objs.size))) (Ne.symm hTe)).trans (Heap.get?_push_size h1 rfl)
 have keep : ∀ b o, b ≠ e -> h1.get? b = some o -> ((h1.push oN).update e (Obj.mapFields (·.setIfInBounds 1 (Value.ref h1.objs.size)))).get? b = some o := fun b o hbe hb => by
  rw [Heap.get?_update_other _ _ (Ne.symm hbe)]
  exact Heap.get?_push_of_some _ hb
 have noR : ∀ b o, s.heap.get? b = some o -> (∀ vs, o.data ≠ .fields vs) -> b ≠ e := fun b o hb hnf z => by
  rw [z, he] at hb
  injection hb with hb
  subst hb
  exact hnf vs hd
 refine ⟨fun b o hbo => keep b o (fun z => by rw [z, hen] at hbo; cases hbo) (k1 b o hbo), hl.of_keeps fun b o hb hnf => ?_, ?_, fun b o hb hnf => ?_⟩
 ·obtain ⟨sl, z⟩ := hs1.2.2 b o hb
  exact ⟨_, keep b _ (noR b o hb hnf) z, rfl⟩
 ·refine ⟨_, _, h1.objs.size, _, _, e3, ⟨Obj.cls_mapFields _ _, uA _ _⟩, d3, by simp [hsz], ⟨k1.fresh, by rw [hs1.1]; exact hn⟩, hTe, t3, rfl, ?_⟩
  first | (simp; done) | (rcases hpl with rfl | ⟨_, _, _, _, _, _, _, rfl⟩ <;> simp)
 ·obtain ⟨sl, z⟩ := hs1.2.2 b o hb
  exact ⟨sl, keep b _ (noR b o hb hnf) z⟩
theorem zX {oe : Obj} {vs : Array Value} (hfr : A.frames = some (env :: outer)) (hl : s.heap.FunFrames base (env :: outer)) (hf : env.frame = some L)
  (he : s.heap.get? e = some oe) (hkb : base.StaysIn s.heap) (hen : base.get? e = none) (hd : oe.data = .fields vs) (h1 : vs[1]? = some .none) (hn : n <= s.heap.objs.size)
  (h : ∀ h', jg n base (env :: outer) e oe.cls oe.dict (rawInt L) s.heap h' -> Q () { s with heap := h' }) : wpAny M A (noteFrame (.ref e) env) Q E s := by
 unfold noteFrame
 simp only [hf]
 refine wpAny_bind (wpAny_field he hd h1 ?_)
 rw [if_neg (by decide)]
 exact vQ hfr hl hf he hkb hen hd (Array.getElem?_eq_some_iff.mp h1).1 hn h
theorem zR {cls : Value} {dct : Option Addr} (hfr : A.frames = some (env :: outer)) (hl : s.heap.FunFrames base (env :: outer)) (hf : env.frame = some L)
  (ht : dS n s.heap base e cls dct .none) (hkb : base.StaysIn s.heap) (hen : base.get? e = none) (hn : n <= s.heap.objs.size)
  (h : ∀ h', jg n base (env :: outer) e cls dct (rawInt L) s.heap h' -> Q () { s with heap := h' }) : wpAny M A (noteFrame (.ref e) env) Q E s := by
 obtain ⟨oe, vs, T, oT, ts, he, ⟨rfl, rfl⟩, hd, h1, ⟨hnT, hnn⟩, hTe, hT, hdT, h3⟩ := ht
 unfold noteFrame
 simp only [hf]
 refine wpAny_bind (wpAny_field he hd h1 ?_)
 rw [if_pos (show (Value.ref T != Value.none) = true from by simp)]
 refine wpAny_bind (wpAny_field hT hdT h3 ?_)
 rw [if_neg (show ¬ ((Value.none == rawInt L) = true) from by simp [rawInt])]
 refine wpAny_bind (wpAny_setField hT hdT (Array.getElem?_eq_some_iff.mp h3).1 ?_)
 have oth : ∀ b, b ≠ T -> (s.heap.update T (Obj.mapFields (·.setIfInBounds 3 Value.none))).get? b = s.heap.get? b := fun b hb => Heap.get?_update_other _ _ (Ne.symm hb)
 have noR : ∀ b o, s.heap.get? b = some o -> (∀ vs, o.data ≠ .fields vs) -> b ≠ T := fun b o hb hnf z => by
  rw [z, hT] at hb
  injection hb with hb
  subst hb
  exact hnf ts hdT
 refine vQ hfr (hl.of_keeps fun b o hb hnf => ⟨o, (oth b (noR b o hb hnf)).trans hb, rfl⟩) hf ((oth e (Ne.symm hTe)).trans he)
  (fun b o hbo => (oth b fun z => by rw [z, hnT] at hbo; cases hbo).trans (hkb b o hbo)) hen hd (Array.getElem?_eq_some_iff.mp h1).1 (by show n <= (s.heap.update _ _).objs.size; rw [Heap.size_update]; exact hn)
  fun h' ⟨x1, x2, x3, x4⟩ => h h' ⟨x1, x2, x3, fun b o hb hnf => x4 b o ((oth b (noR b o hb hnf)).trans hb) hnf⟩
theorem pv {cls fl : Value} {dct : Option Addr} {l : List Env} (hkb : base.StaysIn s.heap) (hl : s.heap.FunFrames base l) (ht : dS n s.heap base e cls dct fl)
  (h : ∀ h', jg n base l e cls dct .none s.heap h' -> Q () { s with heap := h' }) : wpAny M A (setFlight (.ref e) none) Q E s := by
 obtain ⟨oe, vs, T, oT, ts, he, hcls, hd, h1, ⟨hnT, hnn⟩, hTe, hT, hdT, h3⟩ := ht
 have sz : 3 < ts.size := (Array.getElem?_eq_some_iff.mp h3).1
 have oth : ∀ b, b ≠ T -> (s.heap.update T (Obj.mapFields (·.setIfInBounds 3 ((none : Option Addr).elim Value.none fun f => rawInt f)))).get? b = s.heap.get? b :=
  fun b hb => Heap.get?_update_other _ _ (Ne.symm hb)
 have noR : ∀ b o, s.heap.get? b = some o -> (∀ vs, o.data ≠ .fields vs) -> b ≠ T := fun b o hb hnf z => by
  rw [z, hT] at hb
  injection hb with hb
  subst hb
  exact hnf ts hdT
 unfold setFlight
 refine wpAny_bind (wpAny_field he hd h1 ?_)
 rw [if_pos (show (Value.ref T != Value.none) = true from by simp)]
 refine wpAny_setField hT hdT sz (h _ ⟨fun b o hbo => (oth b fun z => by rw [z, hnT] at hbo; cases hbo).trans (hkb b o hbo),
  hl.of_keeps fun b o hb hnf => ⟨o, (oth b (noR b o hb hnf)).trans hb, rfl⟩, ?_, fun b o hb hnf => ⟨o.slots, (oth b (noR b o hb hnf)).trans hb⟩⟩)
 exact ⟨oe, vs, T, _, _, (oth e (Ne.symm hTe)).trans he, hcls, hd, h1, ⟨hnT, hnn⟩, hTe, Heap.get?_update_self _ hT (Obj.isFreed_of_fields (Obj.data_mapFields hdT _)), Obj.data_mapFields hdT _, by simp [sz]⟩
theorem StirX.trans {h h1 h2 : Heap} (a : StirX h h1) (b : StirX h1 h2) : StirX h h2 := fun c o e n => by
 obtain ⟨sl, e1⟩ := a c o e n
 obtain ⟨sl2, e2⟩ := b c _ e1 n
 exact ⟨sl2, e2⟩
def rT (n : Nat) (h base : Heap) (e : Addr) (cls : Value) (dct : Option Addr) : Prop :=
 (∃ oe vs, h.get? e = some oe /\ (oe.cls = cls /\ oe.dict = dct) /\ oe.data = .fields vs /\ vs[1]? = some .none) ∨ dS n h base e cls dct .none
theorem xT {cls : Value} {dct : Option Addr} (hfr : A.frames = some (env :: outer)) (hl : s.heap.FunFrames base (env :: outer)) (hf : env.frame = some L)
  (ht : rT n s.heap base e cls dct) (hkb : base.StaysIn s.heap) (hen : base.get? e = none) (hn : n <= s.heap.objs.size)
  (h : ∀ h', jg n base (env :: outer) e cls dct (rawInt L) s.heap h' -> Q () { s with heap := h' }) : wpAny M A (noteFrame (.ref e) env) Q E s := by
 rcases ht with ⟨oe, vs, he, ⟨rfl, rfl⟩, hd, h1⟩ | ht
 ·exact zX hfr hl hf he hkb hen hd h1 hn h
 ·exact zR hfr hl hf ht hkb hen hn h
theorem zL {cls : Value} {dct : Option Addr} (hfr : A.frames = some (env :: outer)) (hl : s.heap.FunFrames base (env :: outer)) (hf : env.frame = some L)
  (ht : rT n s.heap base e cls dct) (hkb : base.StaysIn s.heap) (hen : base.get? e = none) (hn : n <= s.heap.objs.size)
  (h : ∀ h', jg n base (env :: outer) e cls dct .none s.heap h' -> Q () { s with heap := h' }) : wpAny M A (leaving env (.ref e)) Q E s := by
 unfold leaving
 refine wpAny_bind (xT hfr hl hf ht hkb hen hn fun h1 ⟨a1, a2, a3, a4⟩ => ?_)
 exact pv (s := { s with heap := h1 }) a1 a2 a3 fun h2 ⟨b1, b2, b3, b4⟩ => h h2 ⟨b1, b2, b3, a4.trans b4⟩
end
end L2
namespace L2
open PySem PySem.Spec PyProof.Rows
def isX (e C dx : Addr) (h : Heap) : Prop := ∃ ox vs, h.get? e = some ox /\ ox.cls = .ref C /\ ox.dict = some dx /\ ox.data = .fields vs
def isXN (e C : Addr) (od : Option Addr) (h : Heap) : Prop :=
 ∃ t, h.get? e = some { cls := .ref C, dict := od, data := .fields #[.ref t, .none, .none, .none, .bool false, .none] }
def isXD (dx : Addr) (fs : List (Str × V)) (h : Heap) : Prop := ∃ mA, h.Ns1 dx mA /\ (∀ f, RelO (fs.lookup f) (mA f)) /\ PySem.Within mA (fs.map (·.1))
section
variable {P : Program} {w : World} {H : Hp} {h : Heap} {e C dx : Addr} {od : Option Addr} {fs : List (Str × V)}
theorem isX.ok (p : isX e C dx h) : ObjOk P w H h e (.ext (isX e C dx)) := by
 obtain ⟨ox, vs, h1, h2, h3, h4⟩ := id p
 exact ⟨p, ⟨ox, h1⟩, fun g1 g2 ⟨ox, vs, a1, a2⟩ k => ⟨ox, vs, k _ a1, a2⟩⟩
theorem isXN.ok (p : isXN e C od h) : ObjOk P w H h e (.ext (isXN e C od)) := by
 obtain ⟨t, h1⟩ := id p
 exact ⟨p, ⟨_, h1⟩, fun g1 g2 ⟨t, a1⟩ k => ⟨t, k _ a1⟩⟩
theorem isXD.ok (p : isXD dx fs h) : ObjOk P w H h dx (.ext (isXD dx fs)) := by
 obtain ⟨mA, ⟨o, es, ep, h1, r⟩, h2⟩ := id p
 exact ⟨p, ⟨_, h1⟩, fun g1 g2 ⟨mA, n, a⟩ k => ⟨mA, n.at k, a⟩⟩
theorem isXN.x (p : isXN e C (some dx) h) : isX e C dx h := by
 obtain ⟨t, h1⟩ := p
 exact ⟨_, _, h1, rfl, rfl, rfl⟩
end
def tP (n : Nat) (H : Hp) (h : Heap) (a : Addr) (fl : Value) : Prop :=
 ∃ oe vs, h.get? a = some oe /\ oe.data = .fields vs /\ ((vs[1]? = some .none /\ fl = .none) ∨
   ∃ T oT ts, vs[1]? = some (.ref T) /\ T ≠ a /\ H T = none /\ n <= T /\ h.get? T = some oT /\ oT.data = .fields ts /\ ts[3]? = some fl)
def CXR (P : Program) (w : World) : CXT := fun outer H s E e s' => ∃ (a C dx : Addr) (H' : Hp), e = .ref a /\ s'.os = s.os /\ AllBare s'.gens /\
 Un (frs outer) [] H H' s.heap s'.heap /\ HOk P w H' s'.heap /\ H' a = some (.ext (isX a C dx)) /\ s.heap.objs.size <= a /\ tP s.heap.objs.size H' s'.heap a .none /\ E e none H'
def Throws (X : Cx) (E : XK) : Prop := ∀ (σ : St) (H : Hp) (s : Shared) (a C dx : Addr), Inv X [] σ H s -> H a = some (.ext (isX a C dx)) -> X.s_0.heap.objs.size <= a ->
 tP X.s_0.heap.objs.size H s.heap a .none -> E (.ref a) none H -> X.xe (.ref a) s
theorem Throws.passes {X : Cx} {E : XK} (ex : X.ex = []) (T : Throws X E) : d8 (CXR X.prog X.w) X E := by
 intro pins σ H s e s' I ⟨a, C, dx, H', he, ho, hb, un, hok, ha, hn, hr, hE⟩
 subst he
 have I' := (I.call' (ch := []) ho un hok hb (fun b z => absurd z (by simp))).pins_of (pins' := []) (fun p z => absurd z (by simp))
 refine T σ H' s' a C dx I' ha (Nat.le_trans I.sz hn) ?_ hE
 obtain ⟨oe, vs, h1, h2, h3⟩ := hr
 exact ⟨oe, vs, h1, h2, h3.imp id fun ⟨T, oT, ts, a1, a2, a3, a4, r⟩ => ⟨T, oT, ts, a1, a2, a3, Nat.le_trans I.sz a4, r⟩⟩
structure qo (X : Cx) : Prop where
 ex : X.ex = []
 pn : X.pn = []
 stk : X.stack = X.env :: X.outer
 fr : X.env.frame = some X.env.locals
section
variable {X : Cx} {σ : St} {H : Hp} {s : Shared} {a C dx : Addr} {fl : Value}
theorem Inv.noted (I : Inv X [] σ H s) (p : qo X) (ha : H a = some (.ext (isX a C dx))) (hsz : X.s_0.heap.objs.size <= a) (hr : tP X.s_0.heap.objs.size H s.heap a fl) :
  ∃ B : Heap, B.StaysIn s.heap /\ B.get? a = none /\ s.heap.FunFrames B X.stack /\
    ((fl = .none -> rT X.s_0.heap.objs.size s.heap B a (.ref C) (some dx)) /\ ((∃ oe vs T, s.heap.get? a = some oe /\ oe.data = .fields vs /\ vs[1]? = some (Value.ref T)) -> dS X.s_0.heap.objs.size s.heap B a (.ref C) (some dx) fl)) /\
    ∀ fl' h', jg X.s_0.heap.objs.size B X.stack a (.ref C) (some dx) fl' s.heap h' -> Inv X [] σ H { s with heap := h' } /\ tP X.s_0.heap.objs.size H h' a fl' /\ dS X.s_0.heap.objs.size h' B a (.ref C) (some dx) fl' /\ B.StaysIn h' /\ h'.FunFrames B X.stack := by
 obtain ⟨ox, ws, x1, x2, x3, x4⟩ := (I.hok a _ ha).1
 obtain ⟨oe, vs, h1, h2, h3⟩ := hr
 have eo : ox = oe := by rw [x1] at h1; exact Option.some.inj h1
 subst eo
 obtain ⟨Ts, hTs1, hTs2, hTs3⟩ : ∃ Ts : List Addr, (∀ T ∈ Ts, H T = none /\ X.s_0.heap.objs.size <= T /\ T ≠ a /\ ∃ oT ts, s.heap.get? T = some oT /\ oT.data = .fields ts) /\
   (∀ T, vs[1]? = some (Value.ref T) -> T ∈ Ts /\ ∃ oT ts, s.heap.get? T = some oT /\ oT.data = .fields ts /\ ts[3]? = some fl) /\ (fl = .none /\ vs[1]? = some Value.none ∨ ∃ T, vs[1]? = some (Value.ref T)) := by
  rcases h3 with ⟨h3, h4⟩ | ⟨T, oT, ts, a1, a2, a3, a4, a5, a6, a7⟩
  ·exact ⟨[], fun T z => absurd z (by simp), fun T z => (by rw [h3] at z; cases z), .inl ⟨h4, h3⟩⟩
  ·refine ⟨[T], fun T' z => ?_, fun T' z => ?_, .inr ⟨T, a1⟩⟩
   ·obtain rfl : T' = T := by simpa using z
    exact ⟨a3, a4, a2, oT, ts, a5, a6⟩
   ·rw [a1] at z
    obtain rfl : T = T' := by cases z; rfl
    exact ⟨by simp, oT, ts, a5, a6, a7⟩
 let as : List Addr := a :: (Ts ++ frs X.stack)
 have inF : ∀ b, b ∈ frs X.stack -> H b = none := I.stkFree
 have ff : s.heap.FunFrames X.base X.stack := I.stack
 have ffB : s.heap.FunFrames (PySem.W.hideAll s.heap as) X.stack := PySem.W.funFrames_hide ff fun env he b hb => by
  refine List.mem_cons.mpr (.inr (List.mem_append.mpr (.inr ?_)))
  exact List.mem_filterMap.mpr ⟨env, he, hb⟩
 have notin : ∀ b, b ≠ a -> b ∉ Ts -> b ∉ frs X.stack -> b ∉ as := fun b n1 n2 n3 z => by
  rcases List.mem_cons.mp z with z | z
  ·exact n1 z
  ·rcases List.mem_append.mp z with z | z
   ·exact n2 z
   ·exact n3 z
 have Bk : ∀ b o, s.heap.get? b = some o -> b ≠ a -> b ∉ Ts -> b ∉ frs X.stack -> (PySem.W.hideAll s.heap as).get? b = some o := fun b o e n1 n2 n3 => PySem.W.hideAll_get _ e (notin b n1 n2 n3)
 have nfr : ∀ b, b ∈ frs X.stack -> ∃ o, s.heap.get? b = some o /\ ∀ vs, o.data ≠ .fields vs := fun b hb => (ff.mem hb).2
 have hBa : (PySem.W.hideAll s.heap as).get? a = none := PySem.W.hideAll_none as (List.mem_cons.mpr (.inl rfl))
 have hTB : ∀ T ∈ Ts, (PySem.W.hideAll s.heap as).get? T = none := fun T hT => PySem.W.hideAll_none as (List.mem_cons.mpr (.inr (List.mem_append.mpr (.inl hT))))
 have tr : ∀ T, vs[1]? = some (Value.ref T) -> dS X.s_0.heap.objs.size s.heap (PySem.W.hideAll s.heap as) a (.ref C) (some dx) fl := fun T hT => by
  obtain ⟨m, oT, ts, b1, b2, b3⟩ := hTs2 T hT
  obtain ⟨c1, c2, c3, _⟩ := hTs1 T m
  exact ⟨ox, vs, T, oT, ts, x1, ⟨x2, x3⟩, h2, hT, ⟨hTB T m, c2⟩, c3, b1, b2, b3⟩
 refine ⟨PySem.W.hideAll s.heap as, fun b o e => PySem.W.of_hideAll as e, hBa, ffB, ⟨fun hfl => ?_, fun ⟨oe', vs', T, e1, e2, e3⟩ => ?_⟩, fun fl' h' ⟨n1, n2, n3, n4⟩ => ?_⟩
 ·rcases hTs3 with ⟨_, z⟩ | ⟨T, z⟩
  ·exact .inl ⟨ox, vs, x1, ⟨x2, x3⟩, h2, z⟩
  ·exact .inr (by have q := tr T z; rw [hfl] at q; exact q)
 ·rw [x1] at e1
  cases e1
  rw [h2] at e2
  cases e2
  exact tr T e3
 ·-- the invariant goes on
  obtain ⟨oe2, vs2, T2, oT2, ts2, y1, ⟨y2, y3⟩, y4, y5, ⟨y6, y7⟩, y8, y9, y10, y11⟩ := id n3
  have keepH : ∀ b o, s.heap.get? b = some o -> b ≠ a -> b ∉ Ts -> b ∉ frs X.stack -> h'.get? b = some o := fun b o e m1 m2 m3 => n1 b o (Bk b o e m1 m2 m3)
  have un : Un (frs X.stack) Ts H H s.heap h' := by
   refine ⟨fun b o e n hb hx => keepH b o e (fun z => by rw [z, ha] at n; cases n) hx hb, fun b o e n hb hx => ?_, fun _ _ _ n _ => n, fun b o e hx => ?_, fun _ _ q => q, fun _ _ _ q => q, fun _ ps q => ⟨#[], by rw [q]; simp⟩⟩
   ·obtain ⟨o2, e2, nf⟩ := nfr b hb
    rw [e] at e2
    cases e2
    exact n4 b o e nf
   ·by_cases m1 : b = a
    ·exact ⟨oe2, by rw [m1]; exact y1⟩
    ·by_cases m3 : b ∈ frs X.stack
     ·obtain ⟨o2, e2, nf⟩ := nfr b m3
      obtain ⟨sl, z⟩ := n4 b o2 e2 nf
      exact ⟨_, z⟩
     ·exact ⟨o, keepH b o e m1 hx m3⟩
  have hok : HOk X.prog X.w H h' := fun b u e => by
   by_cases m1 : b = a
   ·subst m1
    rw [ha] at e
    cases e
    exact isX.ok ⟨oe2, vs2, y1, y2, y3, y4⟩
   ·refine (I.hok b u e).stay (fun c v hc q => ?_) (fun _ q => q) fun _ _ q => q
    have tc : ∃ u', H c = some u' /\ c ≠ a := by
     rcases hc with rfl | hc
     ·exact ⟨u, e, m1⟩
     ·exact ⟨_, hc, fun z => by rw [z, ha] at hc; cases hc⟩
    obtain ⟨u', hu', hca⟩ := tc
    refine keepH c v q hca (fun z => ?_) (fun z => ?_)
    ·rw [(hTs1 c z).1] at hu'; cases hu'
    ·rw [inF c z] at hu'; cases hu'
  have T2free : H T2 = none := by
   cases q : H T2 with
   | none => rfl
   | some u =>
     have lt := (I.hok T2 u q).lt
     by_cases m2 : T2 ∈ Ts
     ·rw [(hTs1 T2 m2).1] at q; cases q
     ·by_cases m3 : T2 ∈ frs X.stack
      ·rw [inF T2 m3] at q; cases q
      ·exfalso
       have ex : ∃ o, s.heap.get? T2 = some o := by
        have z := I.hok T2 u q
        cases u with
        | lst xs => obtain ⟨_, _, _, _, e⟩ := z; exact ⟨_, e⟩
        | tup xs => obtain ⟨_, _, _, o, e, _⟩ := z; exact ⟨_, e⟩
        | dK kvs => obtain ⟨_, _, _, _, o, _, _, e, _⟩ := z; exact ⟨_, e⟩
        | dT kvs => obtain ⟨_, _, _, _, o, _, _, e, _⟩ := z; exact ⟨_, e⟩
        | set S n => obtain ⟨o, _, _, _, e, _⟩ := z; exact ⟨_, e⟩
        | ins C dx fs => obtain ⟨_, _, _, e, _⟩ := z; exact ⟨_, e⟩
        | own y => exact z
        | xd fs => obtain ⟨_, ⟨_, _, _, e, _⟩, _⟩ := z; exact ⟨_, e⟩
        | rng lo hi => obtain ⟨_, _, _, e⟩ := z; exact ⟨_, e⟩
        | frz ob u => obtain ⟨e, _⟩ := z; exact ⟨_, e⟩
        | tbl ps => exact ⟨_, z⟩
        | met f y => exact ⟨_, z⟩
        | ext φ => obtain ⟨_, e, _⟩ := z; exact e
       obtain ⟨o, e⟩ := ex
       rw [Bk T2 o e y8 m2 m3] at y6
       cases y6
  refine ⟨?_, ⟨oe2, vs2, y1, y4, .inr ⟨T2, oT2, ts2, y5, y8, T2free, y7, y9, y10, y11⟩⟩, n3, n1, n2⟩
  refine I.call' (s' := { s with heap := h' }) (ch := Ts) rfl un hok I.bare fun b hb => ?_
  obtain ⟨c1, c2, c3, oT, ts, c4, c5⟩ := hTs1 b hb
  refine ⟨.inr c2, fun z => ?_, fun y c e z => ?_, fun q hq => ?_⟩
  ·obtain ⟨m, ⟨o, es, ep, g1, g2, _⟩, _⟩ := I.loc
   rw [<- z, c4] at g1
   cases g1
   rw [c5] at g2
   cases g2
  ·obtain ⟨v, o, g1, g2⟩ := I.cell y c e
   rw [z, c4] at g1
   cases g1
   rw [c5] at g2
   cases g2
  ·rw [p.pn] at hq
   exact absurd hq (by simp)
end
end L2
namespace L2
open PySem PySem.Spec PyProof.Rows
theorem bc {P : Program} {w : World} {K : Frag} {mg : Str -> Option Value} {base : Heap} {N : List Str} {qual : Str} {scope : Scope} {f : Addr} {cd : Value} {A : Around} {outer : List Env} {s : Shared} {H : Hp} {E : XK} :
  Throws (fT (CXR P w) P w K mg base N qual scope f cd A outer s H E) E := by
 intro σ H' s' a C dx I ha hsz hr hE
 have p : qo (fT (CXR P w) P w K mg base N qual scope f cd A outer s H E) := ⟨rfl, rfl, rfl, rfl⟩
 obtain ⟨B, b1, b2, b3, ⟨b4, _⟩, b5⟩ := I.noted p ha hsz hr
 show wpAny _ _ (leaving _ (.ref a)) _ _ s'
 refine zL (n := s.heap.objs.size) (base := B) (outer := outer) (L := s.heap.objs.size) I.ok.frames b3 rfl (b4 rfl) b1 b2 I.sz fun h' nn => ?_
 obtain ⟨I', r', _⟩ := b5 _ h' nn
 exact ⟨a, C, dx, H', rfl, I'.os, I'.bare, I'.base, I'.hok, ha, hsz, r', hE⟩
theorem ae {P : Program} {w : World} {K : Frag} {mg : Str -> Option Value} {base : Heap} {N : List Str} {qual : Str} {scope : Scope} {f : Addr} {cd : Value} {A : Around} {outer : List Env} {s : Shared} {H : Hp} {E : XK} :
  d8 (CXR P w) (fT (CXR P w) P w K mg base N qual scope f cd A outer s H E) E := bc.passes rfl
theorem Fun.okX {P : Program} {w : World} {K : Frag} {mg : Str -> Option Value} {base : Heap} {x qual : Str} {st : Stmt} {f : Addr} {fd : FuncData} {N ps : List Str} {k : Nat} {sp : Sp} (F : Fun K x qual st f fd) (S : ai N ps (ad st))
  (len : ∀ vs H Q E, sp vs H Q E -> vs.length = ps.length)
  (hbody : ∀ (cdv : Value) (A : Around) (outer : List Env) (s : Shared) (H : Hp) (vs : List V) (Q : VK) (E : XK), Room k (A.deeper (envOfC qual (ad st) s.heap.objs.size f cdv)) -> sp vs H Q E ->
   ∃ t, PSs (fT (CXR P w) P w K mg base N qual (ad st) f cdv A outer s H E) (aT st) t /\ t { nx := fun _ H' => Q .non H', rt := Q } (cE N vs) H) : FnOk P w K mg base (CXR P w) (k + 1) f fd ps sp := by
 obtain ⟨oc, od, kV, doc, pm, an, cdv, ct, osl, rfl, lk, hcd⟩ := F.ex
 refine Bg lk hcd S len fun A outer s H vs Q E hr hsp => ?_
 exact hbody cdv A outer s H vs Q E hr hsp
def rj (K : Frag) (C : Addr) : Bool := match K.lookup C with
 | some ⟨.type t, _, .cls cd, sl⟩ => t == "type" && (cd.hasDict && (!cd.hasDel && ((match cd.mro with | .ref c :: bm => c == C && cg bm | _ => false) &&
   (match sl.toList with | [_, _, _, _, some (.builtin n), _] => n == "Exception.__new__" | _ => false))))
 | _ => false
theorem jC : ∀ {l : List Value}, cg l = true -> nh "Exception" l
 | l, e => by
   rcases er e with ⟨c, r, rfl, e'⟩ | rfl
   ·have T := jC e'
    exact ⟨by rw [List.contains_cons, T.hasB, Bool.or_true], by rw [List.contains_cons, T.noAttr]; rfl, by rw [List.contains_cons, T.noName]; rfl, by rw [List.contains_cons, T.hasBase, Bool.or_true]⟩
   ·exact ⟨by decide +kernel, by decide +kernel, by decide +kernel, by decide +kernel⟩
theorem dP {K : Frag} {C : Addr} (e : rj K C = true) : ∃ nm qn N bs bm sn sub ab col dd k0 k1 k2 k3 k5 cd,
  K.lookup C = some (excClassObj nm qn C N bs bm true sn sub ab col dd k0 k1 k2 k3 k5 "Exception.__new__") /\ cg bm = true /\ clsIn K C = some cd /\ cd.mro = .ref C :: bm /\ cd.hasDict = true := by
 unfold rj at e
 split at e
 ·rename_i t dd cd sl hl
  obtain ⟨name, bases, mro, ns, qn, hd, sn, sub, ab, col, hdel⟩ := cd
  simp only [Bool.and_eq_true, beq_iff_eq, Bool.not_eq_true'] at e
  obtain ⟨rfl, h1, h2, h3, h4⟩ := e
  have h1 : hd = true := h1
  have h2 : hdel = false := h2
  subst h1 h2
  split at h3
  ·rename_i c bm
   simp only [Bool.and_eq_true, beq_iff_eq] at h3
   obtain ⟨rfl, h3⟩ := h3
   split at h4
   ·rename_i a0 a1 a2 a3 n a5 hs
    have h4 := beq_iff_eq.mp h4
    subst h4
    have hs' : sl = #[a0, a1, a2, a3, some (.builtin "Exception.__new__"), a5] := by
     apply Array.ext'
     rw [hs]
    subst hs'
    refine ⟨name, qn, ns, bases, bm, sn, sub, ab, col, dd, a0, a1, a2, a3, a5, { name := name, bases := bases, mro := _, ns := ns, qualname := qn, hasDict := true, slotNames := sn, subclasses := sub, abstract := ab, collection := col, hasDel := false }, hl, h3, ?_, rfl, rfl⟩
    unfold clsIn
    rw [hl]
   ·cases h4
  ·cases h3
 ·cases e
structure ur (K : Frag) (C : Addr) : Prop where
 cls : rj K C = true
 sa : findIn K (.ref C) "__setattr__" = some (some (.builtin "object.__setattr__"))
 ga : findIn K (.ref C) "__getattribute__" = some (some (.builtin "BaseException.__getattribute__"))
 gt : findIn K (.ref C) "__getattr__" = some none
structure XMk (K : Frag) (C f : Addr) : Prop extends ur K C where
 init : findIn K (.ref C) "__init__" = some (some (.ref f))
 fn : isFn K (.ref f) = true
 kp : keepIn K (.ref C) = true
section
variable {M : Model} {A : Around} {E : Value -> Shared -> Prop} {env : Env}
variable {nm qn : Str} {C N : Addr} {bs bm : List Value} {hdct : Bool} {sn : List Str} {sub : List Value} {ab : Bool} {col : Option Bool} {dd : Option Addr} {k0 k1 k2 k3 k5 : Option Value} {newId : String}
theorem rn {s : Shared} {x : Sem Value} {Q : Flow -> Shared -> Prop} (hb : bm.contains (.type "BaseException") = true) (hh : A.handled = none)
  (h : wpAny M A x (fun v s1 => ∃ e t od, v = .ref e /\ s1.heap.get? C = some (excClassObj nm qn C N bs bm hdct sn sub ab col dd k0 k1 k2 k3 k5 newId) /\
   s1.heap.get? e = some { cls := .ref C, dict := od, data := .fields #[.ref t, .none, .none, .none, .bool false, .none] } /\ E (.ref e) s1) E s) :
  wpAny M A (raiseStmt env (some x) none) Q E s := by
 have hc : (Value.ref C :: bm).contains (.type "BaseException") = true := by rw [List.contains_cons, hb, Bool.or_true]
 unfold raiseStmt
 refine wpAny_bind (wpAny_mono h (fun v s1 h1 => ?_) fun _ _ x => x)
 obtain ⟨e, t, od, rfl, hC, he, hE⟩ := h1
 obtain ⟨hp, g, d, tk, os⟩ := s1
 repeat (first | with_reducible refine wpAny_loadPart_at he ?_ | with_reducible refine wpAny_loadPart_at hC ?_ | (with_reducible refine wpAny_isSubtype_exc hC ?_; rw [hc]) | wp_step)
 exact wpAny_raiseNew_none hh hE
end
def wm (C : Addr) (sp : Sp) (E : XK) (t : TA) : TS := fun _ σ H => t σ H fun vs H1 => ∀ e, H1 e = none ->
 sp (.ref e :: vs) (upd H1 e (.ext (isXN e C none))) (fun v H2 => v = .non /\ ∃ dx, H2 e = some (.ext (isXN e C (some dx))) /\ E (.ref e) none (upd H2 e (.ext (isX e C dx)))) fun _ _ _ => False
section
variable {X : Cx} {k : Nat} {f C : Addr} {fd : FuncData} {ps : List Str} {sp : Sp} {E : XK} {x : Str} {np cpos pos : Pos} {e : Expr} {es : List Expr} {t : TA}
theorem oM {pins : List (Addr × Obj)} {σ : St} {H : Hp} {s : Shared} {us : List Value} {vs : List V} {xe : Value -> Shared -> Prop} (M : XMk X.K C f) (F : FnOk X.prog X.w X.K X.mg X.base (CXR X.prog X.w) k f fd ps sp) (hr : Room (k + 1) X.A) (hb : Binds X.K fd ps [])
  (T : Throws X E) (I : Inv X pins σ H s) (r : Vals vs us) (hl : us.length <= sizeLine)
  (h : ∀ e, H e = none -> sp (.ref e :: vs) (upd H e (.ext (isXN e C none))) (fun v H2 => v = .non /\ ∃ dx, H2 e = some (.ext (isXN e C (some dx))) /\ E (.ref e) none (upd H2 e (.ext (isX e C dx)))) fun _ _ _ => False) :
  wpAny (model X.prog X.w) X.A (call (.ref C) us) (fun v s1 => ∃ e t od, v = .ref e /\ X.K.In s1.heap /\
   s1.heap.get? e = some { cls := .ref C, dict := od, data := .fields #[.ref t, .none, .none, .none, .bool false, .none] } /\ X.xe (.ref e) s1) xe s := by
 obtain ⟨nm, qn, N, bs, bm, sn, sub, ab, col, dd, k0, k1, k2, k3, k5, cd, hC, ht, hc, hm, hd⟩ := dP M.cls
 obtain ⟨hp, g, d, tk, os⟩ := s
 have ty : (X.K.lookup f).map (fun o => o.cls) = some (.type "function") := beq_iff_eq.mp M.fn
 obtain ⟨oI, hoI, hoc⟩ : ∃ oI, hp.get? f = some oI /\ oI.cls = .type "function" := by
  cases q : X.K.lookup f with
  | none => rw [q] at ty; cases ty
  | some o => rw [q] at ty; exact ⟨o, I.kIn _ _ q, Option.some.inj ty⟩
 refine wF PySem.F.excBase_Exception (jC ht) (I.kIn _ _ hC) (PySem.W.looks_findIn I.kIn M.init) hoI hoc (fun h' e hz hmade => ?_) hl
 obtain ⟨tt, he, _, _⟩ := hmade.there
 have I2 := I.laid (a := e) (o := .ext (isXN e C none)) (h' := h') (t' := tk) hmade.keeps hz (isXN.ok ⟨tt, he⟩)
 have hfree : H e = none := I.hok.fresh hz
 have hq := h e hfree
 have r2 : Vals (V.ref e :: vs) (Value.ref e :: us) := .cons rfl r
 have hlen : (Value.ref e :: us ++ []).length = ps.length := by
  rw [List.append_nil, <- r2.length]
  exact F.len _ _ _ _ hq
 have hbind := hb _ (Value.ref e :: us) I2.kIn hlen
 rw [List.append_nil] at hbind
 refine wpAny_call (codeAny_mono (F.run _ X.stack _ _ ⟨Value.ref e :: us, []⟩ (Value.ref e :: us) _ _ _ (hr.make C us []) (I2.env0.make C us []) hbind r2 hq) fun r s' hq' => ?_)
 cases r with
 | error y =>
   have hq2 : CXR X.prog X.w X.stack (upd H e (.ext (isXN e C none))) ⟨h', g, d, tk, os⟩ (fun _ _ _ => False) y s' := hq'
   obtain ⟨_, _, _, _, _, _, _, _, _, _, _, _, z⟩ := hq2
   exact z.elim
 | ok fl =>
   cases fl with
   | ret u =>
     obtain ⟨v, H', I3, rv, rfl, dx, hx, hE⟩ := I2.after hq'
     refine ⟨rv, ?_⟩
     obtain ⟨t3, ht3⟩ := (I3.hok e _ hx).1
     have I4 : Inv X pins σ (upd H' e (.ext (isX e C dx))) s' := I3.write (x := e) (e := e) (o := .ext (isX e C dx)) (h' := s'.heap) (t' := s'.toks) (by rw [hx]; exact True.intro) (.inl rfl) (fun b u _ q => q) ⟨_, ht3⟩ (isX.ok (isXN.x ⟨t3, ht3⟩))
     refine ⟨e, t3, _, rfl, I3.kIn, ht3, T σ _ s' e C dx (I4.pins_of fun p z => absurd z (by simp)) af (Nat.le_trans I.sz hz) ⟨_, _, ht3, rfl, .inl ⟨rfl, rfl⟩⟩ hE⟩
   | next => exact False.elim hq'
   | brk => exact False.elim hq'
   | cont => exact False.elim hq'
theorem uL (M : XMk X.K C f) (F : FnOk X.prog X.w X.K X.mg X.base (CXR X.prog X.w) k f fd ps sp) (hr : Room (k + 1) X.A) (hg : Gl X x) (hm : X.mg x = some (.ref C)) (hb : Binds X.K fd ps []) (T : Throws X E)
  (ha : PA X (e :: es) t) (hsz : (e :: es).length <= 3 := by decide) (hdb : (x == ("__debug__" : Str)) = false := by decide) (he : starEach (e :: es) X.env = (false, eval e X.env) :: starEach es X.env := by rfl) (hpl : (backTo cpos (starEach es X.env)).any (·.1) = false := by rfl)
  (hps : ps.length <= 9 := by decide) :
  PS X (.Raise (some (.Call (.Name x np) (e :: es) [] cpos)) none pos) (wm C sp E t) := by
 intro pins s σ H D I h
 obtain ⟨nm, qn, N, bs, bm, sn, sub, ab, col, dd, k0, k1, k2, k3, k5, cd, hC, ht, _⟩ := dP M.cls
 rw [arm_exec_Raise]
 refine wpAny_bind (wpAny_standAt ?_)
 show wpAny _ _ (raiseStmt X.env (some (do let v <- eval (.Call (.Name x np) (e :: es) [] cpos) X.env; standAt pos; pure v)) none) _ _ _
 refine rn (C := C) (nm := nm) (qn := qn) (N := N) (bs := bs) (bm := bm) (hdct := true) (sn := sn) (sub := sub) (ab := ab) (col := col) (dd := dd) (k0 := k0) (k1 := k1) (k2 := k2) (k3 := k3) (k5 := k5) (newId := "Exception.__new__") (jC ht).hasBase hr.hd ?_
 refine wpAny_bind (thn (Q := fun v s1 => ∃ e t od, v = .ref e /\ X.K.In s1.heap /\ s1.heap.get? e = some { cls := .ref C, dict := od, data := .fields #[.ref t, .none, .none, .none, .bool false, .none] } /\ X.xe (.ref e) s1) ?_ fun v s1 ⟨e', t', od, z1, z2, z3, z4⟩ =>
  wpAny_bind (wpAny_standAt (wpAny_pure ⟨e', t', od, z1, z2 _ _ hC, z3, z4⟩)))
 refine wpAny_Call_Name_kw (fH I hg hm ?_ hdb)
 refine PySem.W.callWith_K (h₀ := X.base) I.ok.mod.kin M.kp (thn (ha cpos pins s σ H _ I h) fun us s1 ⟨vs, H1, I1, r, q⟩ => ⟨I1.kIn, ?_⟩) he hpl
 have hl : us.length <= sizeLine := by
  rw [<- r.length]
  have z := F.len _ _ _ _ (q s1.heap.objs.size (I1.hok.fresh (Nat.le_refl _)))
  simp only [List.length_cons] at z
  rw [sizeLine_eq]
  omega
 exact oM M F hr hb T I1 r hl q
theorem tY (M : XMk X.K C f) (F : FnOk X.prog X.w X.K X.mg X.base (CXR X.prog X.w) k f fd ps sp) (hr : Room (k + 1) X.A) (hg : Gl X x) (hm : X.mg x = some (.ref C)) (hb : Binds X.K fd ps []) (T : Throws X E)
  (hdb : (x == ("__debug__" : Str)) = false := by decide) : PS X (.Raise (some (.Call (.Name x np) [] [] cpos)) none pos) (wm C sp E nD) := by
 intro pins s σ H D I h
 obtain ⟨nm, qn, N, bs, bm, sn, sub, ab, col, dd, k0, k1, k2, k3, k5, cd, hC, ht, _⟩ := dP M.cls
 rw [arm_exec_Raise]
 refine wpAny_bind (wpAny_standAt ?_)
 show wpAny _ _ (raiseStmt X.env (some (do let v <- eval (.Call (.Name x np) [] [] cpos) X.env; standAt pos; pure v)) none) _ _ _
 refine rn (C := C) (nm := nm) (qn := qn) (N := N) (bs := bs) (bm := bm) (hdct := true) (sn := sn) (sub := sub) (ab := ab) (col := col) (dd := dd) (k0 := k0) (k1 := k1) (k2 := k2) (k3 := k3) (k5 := k5) (newId := "Exception.__new__") (jC ht).hasBase hr.hd ?_
 refine wpAny_bind (thn (Q := fun v s1 => ∃ e t od, v = .ref e /\ X.K.In s1.heap /\ s1.heap.get? e = some { cls := .ref C, dict := od, data := .fields #[.ref t, .none, .none, .none, .bool false, .none] } /\ X.xe (.ref e) s1) ?_ fun v s1 ⟨e', t', od, z1, z2, z3, z4⟩ =>
  wpAny_bind (wpAny_standAt (wpAny_pure ⟨e', t', od, z1, z2 _ _ hC, z3, z4⟩)))
 refine wpAny_Call_Name_kw (fH I hg hm ?_ hdb)
 exact PySem.W.callWith_K0 I.kIn M.kp (oM (us := []) M F hr hb T I .nil (Nat.zero_le _) h)
end
end L2
namespace L2
open PySem PySem.Spec PyProof.Rows
def sX0 (K : Frag) (ta tv : TE) (f : Str) : TS := fun D σ H => tv σ H fun y H1 => ta σ H1 fun x H2 => ∃ e C, x = .ref e /\ H2 e = some (.ext (isXN e C none)) /\ ur K C /\ NoAttr K C f /\
 ∀ dx, H2 dx = none -> dx ≠ e -> D.nx σ (upd (upd H2 e (.ext (isXN e C (some dx)))) dx (.ext (isXD dx [(f, y)])))
def sX1 (K : Frag) (ta tv : TE) (f : Str) : TS := fun D σ H => tv σ H fun y H1 => ta σ H1 fun x H2 => ∃ e C dx fs, x = .ref e /\ H2 e = some (.ext (isXN e C (some dx))) /\ H2 dx = some (.ext (isXD dx fs)) /\ dx ≠ e /\ fs.length <= 100 /\ ur K C /\ NoAttr K C f /\
 D.nx σ (upd H2 dx (.ext (isXD dx (fw f y fs))))
def tXF (K : Frag) (ta : TE) (f : Str) : TE := fun σ H Q => ta σ H fun x H1 => ∃ e C dx fs v, x = .ref e /\ H1 e = some (.ext (isX e C dx)) /\ H1 dx = some (.ext (isXD dx fs)) /\ ur K C /\ NoAttr K C f /\ fs.lookup f = some v /\ Q v H1
section
variable {X : Cx} {o e value : Expr} {f : Str} {pos pos' : Pos} {ta tv : TE}
theorem vL (ha : PE X o ta) (hv : PE X value tv) (hs : swapsWith value (some (.Attribute o f pos')) pos.line X.env = pure false) : PS X (.Assign [.Attribute o f pos'] value pos) (sX0 X.K ta tv f) := by
 intro pins s σ H D I h
 refine plainObj_wpAny_Assign_Attribute (thn (hv pins s σ H _ I h) fun u s1 ⟨y, H1, I1, ry, q⟩ => thn (ha pins s1 σ H1 _ I1 q) fun ov s2 ⟨x, H2, I2, rx, e, C, ex, he, c, na, q2⟩ => ?_) hs
 subst ex
 obtain rfl : ov = Value.ref e := rx
 obtain ⟨t, ht⟩ := (I2.hok e _ he).1
 obtain ⟨_, _, _, _, bm, _, _, _, _, _, _, _, _, _, _, cd, hC, htl, hc, hm, hd⟩ := dP c.cls
 refine xf I2.kIn ht hc (by rw [hm]; cases bm <;> first | exact htl | cases htl) hd na c.sa fun h' g1 g2 g3 => ?_
 have hz : H2 s2.heap.objs.size = none := I2.hok.fresh (Nat.le_refl _)
 have hne : s2.heap.objs.size ≠ e := Nat.ne_of_gt (Heap.lt_size ht)
 refine ⟨σ, _, ?_, q2 s2.heap.objs.size hz hne⟩
 have nd : ∀ b u, H2 b = some u -> b ≠ s2.heap.objs.size := fun b u z => az z hz
 have look : ∀ b u, H2 b = some u -> u ≠ .ext (isXN e C none) -> upd (upd H2 e (.ext (isXN e C (some s2.heap.objs.size)))) s2.heap.objs.size (.ext (isXD s2.heap.objs.size [(f, y)])) b = some u := fun b u z hu => by
  rw [al (nd b u z), al (fun w => hu (by rw [w, he] at z; exact (Option.some.inj z).symm))]
  exact z
 have un : Un X.fs [] H2 (upd (upd H2 e (.ext (isXN e C (some s2.heap.objs.size)))) s2.heap.objs.size (.ext (isXD s2.heap.objs.size [(f, y)]))) s2.heap h' := by
  have ku : ∀ b ob, s2.heap.get? b = some ob -> H2 b = none -> h'.get? b = some ob := fun b ob z n => g3 b ob (fun w => by rw [w, he] at n; cases n) z
  refine ⟨fun b ob z n _ _ => ku b ob z n, fun b ob z n _ _ => ⟨ob.slots, ku b ob z n⟩, fun b ob z n _ => ?_, fun b ob z _ => ?_, fun b xs z => look b _ z (by intro w; cases w), fun b ob u z => look b _ z (by intro w; cases w), fun b ps z => ⟨#[], by rw [look b _ z (by intro w; cases w)]; simp⟩⟩
  ·rw [al (Nat.ne_of_lt (Heap.lt_size z)), al (fun w => by rw [w, he] at n; cases n)]
   exact n
  ·by_cases w : b = e
   ·exact ⟨_, by rw [w]; exact g1⟩
   ·exact ⟨ob, g3 b ob w z⟩
 refine I2.un un fun b u0 z => ?_
 by_cases w1 : b = s2.heap.objs.size
 ·subst w1
  rw [af] at z
  cases z
  refine isXD.ok ⟨_, g2, fun g => ?_, fun g hg => ?_⟩
  ·show RelO (List.lookup g [(f, y)]) (if g = f then some u else none)
   by_cases e1 : g = f
   ·subst e1; simp only [List.lookup, beq_self_eq_true, if_true]; exact ry
   ·have : (g == f) = false := beq_eq_false_iff_ne.mpr e1
    simp only [List.lookup, this, if_neg e1]; trivial
  ·by_cases e1 : g = f
   ·simp [e1]
   ·exact absurd (if_neg e1) hg
 ·rw [al w1] at z
  by_cases w2 : b = e
  ·subst w2
   rw [af] at z
   cases z
   exact isXN.ok ⟨t, g1⟩
  ·rw [al w2] at z
   refine (I2.hok b u0 z).stay (fun c v hc q => g3 c v (fun w => ?_) q) (fun c q => look c _ q (by intro w; cases w)) fun c xs q => look c _ q (by intro w; cases w)
   subst w
   rcases hc with hc | hc
   ·exact w2 hc.symm
   ·rw [he] at hc; cases hc
theorem uZ (ha : PE X o ta) (hv : PE X value tv) (hs : swapsWith value (some (.Attribute o f pos')) pos.line X.env = pure false) : PS X (.Assign [.Attribute o f pos'] value pos) (sX1 X.K ta tv f) := by
 intro pins s σ H D I h
 refine plainObj_wpAny_Assign_Attribute (thn (hv pins s σ H _ I h) fun u s1 ⟨y, H1, I1, ry, q⟩ => thn (ha pins s1 σ H1 _ I1 q) fun ov s2 ⟨x, H2, I2, rx, e, C, dx, fs, ex, he, hdx, hne, hl, c, na, q2⟩ => ?_) hs
 subst ex
 obtain rfl : ov = Value.ref e := rx
 obtain ⟨t, ht⟩ := (I2.hok e _ he).1
 obtain ⟨mA, hn, hr, hw⟩ := (I2.hok dx _ hdx).1
 obtain ⟨_, _, _, _, bm, _, _, _, _, _, _, _, _, _, _, cd, hC, htl, hc, hm, hd⟩ := dP c.cls
 refine xt I2.kIn ht hn hne hw (by rw [List.length_map]; omega) hc (by rw [hm]; cases bm <;> first | exact htl | cases htl) hd na c.sa fun h' g1 g2 g3 => ?_
 refine ⟨σ, _, ?_, q2⟩
 have g0 : ∃ o, h'.get? dx = some o := let ⟨o, _, _, e', _⟩ := g2; ⟨o, e'⟩
 refine I2.write (x := dx) (e := dx) (by rw [hdx]; exact True.intro) (.inl rfl) (fun b ob hb z => g3 b ob hb z) g0 (isXD.ok ⟨_, g2, fun g => ?_, fun g hg => ?_⟩)
 ·show RelO ((fw f y fs).lookup g) (if g = f then some u else mA g)
  rw [ig]
  by_cases q : g = f
  ·rw [if_pos q, if_pos q]; exact ry
  ·rw [if_neg q, if_neg q]; exact hr g
 ·by_cases q : g = f
  ·rw [q]; exact (f8 f y fs).1
  ·refine (f8 f y fs).2 g (hw g fun z => hg ?_)
   show (if g = f then some u else mA g) = none
   rw [if_neg q]; exact z
theorem tK (he : PE X e ta) (hb : attributeBase e f X.env (eval e X.env) = eval e X.env) : PE X (.Attribute e f pos) (tXF X.K ta f) := by
 intro pins s σ H Q I h
 refine tq hb (thn (he pins s σ H _ I h) fun u s1 ⟨x, H1, I1, rx, a, C, dx, fs, v, ex, ea, ed, c, n, l, q⟩ => ?_)
 subst ex
 obtain rfl : u = Value.ref a := rx
 obtain ⟨ox, vs, h1, h2, h3, h4⟩ := (I1.hok a _ ea).1
 obtain ⟨mA, hn, hr, hw⟩ := (I1.hok dx _ ed).1
 obtain ⟨_, _, _, _, bm, _, _, _, _, _, _, _, _, _, _, cd, hC, htl, hc, hm, hd⟩ := dP c.cls
 obtain ⟨od, hod, hlk⟩ := kl hn
 obtain ⟨u, hu, ru⟩ := RelO.some_of (v := v) (o := mA f) (by rw [<- l]; exact hr f)
 have J : PySem.W.InstAt s1.heap a ox C (some od) := ⟨h1, h2, by unfold PySem.W.notCls; rw [h4], by rw [h3]; exact hod⟩
 have hdi : PySem.W.hasDictIn X.K C = true := by unfold PySem.W.hasDictIn; rw [hc]; exact hd
 refine B2 I1.kIn J hc (by rw [hm]; cases bm <;> first | exact htl | cases htl) c.ga c.gt (PySem.W.findObj_own hdi n rfl (by rw [hlk, hu])) (oG ru) ?_
 exact ⟨v, H1, I1.tok _, ru, q⟩
end
structure jZ (K : Frag) (C : Addr) (m : Str) (f : Addr) : Prop where
 sg : PySem.W.specialIn K (.ref C) "__getattribute__" = some (some (.builtin "type.__getattribute__"))
 rd : PySem.W.readsIn K C (.type "type") = true
 fc : PySem.W.findCls K (.ref C) (.type "type") m = some (.val (.ref f))
 kp : keepIn K (.ref f) = true
section
variable {X : Cx} {CX : CXT} {k : Nat} {f C : Addr} {fd : FuncData} {ps : List Str} {sp : Sp} {E : XK} {x m : Str} {p pos apos : Pos} {e : Expr} {es : List Expr} {t : TA}
theorem dA {pl : Sem Bool} (hg : Gl X x) (hm : X.mg x = some (.ref C)) (c : jZ X.K C m f) (F : FnOk X.prog X.w X.K X.mg X.base CX k f fd ps sp) (hr : Room k X.A) (hb : Binds X.K fd ps []) (hx : d8 CX X E) (ha : PA X (e :: es) t)
  (hst : starEach (e :: es) X.env = (false, eval e X.env) :: starEach es X.env := by rfl) (hpl : (backTo pos (starEach es X.env)).any (·.1) = false := by rfl) (hdb : (x == ("__debug__" : Str)) = false := by decide)
  (ht : eval (.Call (.Attribute (.Name x p) m apos) (e :: es) [] pos) X.env = (do
   let ov <- eval (.Name x p) X.env
   standAt apos.atName
   let (f, first) <- holding [ov] (getMethod ov m pl)
   callWith pos f first (backTo pos (starEach (e :: es) X.env)) (backToKw pos (keywordEach [] X.env))) := by rfl) :
  PE X (.Call (.Attribute (.Name x p) m apos) (e :: es) [] pos) (tT sp [] E t) := by
 intro pins s σ H Q I h
 refine PySem.W.methodCall_KW (pl := pl) (fH I hg hm ?_ hdb) ht
 refine PySem.W.method_cls I.kIn c.sg (PySem.W.cls_value I.kIn c.rd c.fc rfl ?_)
 have I' := I.tok (s.toks + 1)
 refine PySem.W.callWith_K (first := []) (h₀ := X.base) I.ok.mod.kin c.kp (thn (ha pos pins _ σ H _ I' h) fun us s2 ⟨vs, H2, I2, r, q2⟩ => ⟨I2.kIn, ?_⟩) hst hpl
 exact m9 (us := us) (vs := vs) (ds := []) (dvs := []) F hr hb .nil hx I2 r q2
def uY (X : Cx) (CX : CXT) (i : Nat) (E : XK) (t : TA) : TE := fun σ H Q => ∃ f fd ps sp k, σ[i]? = some (some (.ref f)) /\ FnOk X.prog X.w X.K X.mg X.base CX k f fd ps sp /\ Room k X.A /\ keepIn X.K (.ref f) = true /\ Binds X.K fd ps [] /\
 t σ H fun vs H1 => sp vs H1 Q E
theorem eR (i : Nat) (hx : d8 CX X E) (ha : PA X (e :: es) t) (hN : X.N[i]? = some x := by rfl) (hv : Vis X.env.scope x := by first | exact Or.inl rfl | exact Or.inr (Or.inl rfl) | exact Or.inr (Or.inr rfl)) (hdb : (x == ("__debug__" : Str)) = false := by decide) (hcd : (x == ("__classdict__" : Str)) = false := by decide)
  (he : starEach (e :: es) X.env = (false, eval e X.env) :: starEach es X.env := by rfl) (hpl : (backTo pos (starEach es X.env)).any (·.1) = false := by rfl) :
  PE X (.Call (.Name x p) (e :: es) [] pos) (uY X CX i E t) := by
 intro pins s σ H Q I h
 obtain ⟨f, fd, ps, sp, k, hs, F, hr, hk, hb, h⟩ := h
 refine wpAny_Call_Name_kw (thn (vK (pos := p) hN hv hdb hcd pins s σ H (fun v H' => v = .ref f /\ H' = H) I ⟨_, hs, rfl, rfl⟩) fun u s1 ⟨v, H', I1, ru, e1, e2⟩ => ?_)
 subst e1 e2
 obtain rfl : u = Value.ref f := ru
 refine PySem.W.callWith_K (h₀ := X.base) I.ok.mod.kin hk (thn (ha pos pins s1 σ H' _ I1 h) fun us s2 ⟨vs, H1, I2, r, q⟩ => ⟨I2.kIn, ?_⟩) he hpl
 exact m9 (us := us) (vs := vs) (ds := []) (dvs := []) F hr hb .nil hx I2 r (by rw [List.append_nil]; exact q)
end
end L2
namespace L2
open PySem PySem.Spec PyProof.Rows
def xF (X : Cx) (st : List Stmt) (t : TS) : Prop :=
 ∀ (s : Shared) (σ : St) (H : Hp) (D : mH), Inv X [] σ H s -> t D σ H -> wpAny (model X.prog X.w) X.A (execs st X.env) (SP X [] D) X.xe s
def PS0 (X : Cx) (st : Stmt) (t : TS) : Prop :=
 ∀ (s : Shared) (σ : St) (H : Hp) (D : mH), Inv X [] σ H s -> t D σ H -> wpAny (model X.prog X.w) X.A (exec st X.env) (SP X [] D) X.xe s
theorem PSs.zero {X : Cx} {st : List Stmt} {t : TS} (h : PSs X st t) : xF X st t := fun s σ H D I q => h [] s σ H D I q
theorem o6 {X : Cx} {st : Stmt} {rest : List Stmt} {t u : TS} (h1 : PS0 X st t) (h2 : xF X rest u) : xF X (st :: rest) (wY t u) := by
 intro s σ H D I h
 refine wpAny_execs_cons (thn (h1 s σ H { D with nx := u D } I h) fun fl s1 q => ?_)
 cases fl with
 | next =>
   obtain ⟨σ', H', I', q⟩ := q
   exact h2 s1 σ' H' D I' q
 | ret v => exact q
 | brk => exact q
 | cont => exact q
theorem Fun.okX0 {P : Program} {w : World} {K : Frag} {mg : Str -> Option Value} {base : Heap} {x qual : Str} {st : Stmt} {f : Addr} {fd : FuncData} {N ps : List Str} {k : Nat} {sp : Sp} (F : Fun K x qual st f fd) (S : ai N ps (ad st))
  (len : ∀ vs H Q E, sp vs H Q E -> vs.length = ps.length)
  (hbody : ∀ (cdv : Value) (A : Around) (outer : List Env) (s : Shared) (H : Hp) (vs : List V) (Q : VK) (E : XK), Room k (A.deeper (envOfC qual (ad st) s.heap.objs.size f cdv)) -> sp vs H Q E ->
   ∃ t, xF (fT (CXR P w) P w K mg base N qual (ad st) f cdv A outer s H E) (aT st) t /\ t { nx := fun _ H' => Q .non H', rt := Q } (cE N vs) H) : FnOk P w K mg base (CXR P w) (k + 1) f fd ps sp := by
 obtain ⟨oc, od, kV, doc, pm, an, cdv, ct, osl, rfl, lk, hcd⟩ := F.ex
 refine ⟨len, fun A outer s H args us vs Q E hr e0 hb r hsp => ?_⟩
 have hl := len _ _ _ _ hsp
 have KX : K.In s.heap := e0.mod.kin.keeps fun b o e => (e0.bs b o e).1
 have lim : s.heap.NoLimit := e0.mod.nolimit.keeps fun b o e => (e0.bs b o e).1
 have hkd : ∀ y ∈ ps.zip us, (ad st).names.lookup y.1 = some .local ∨ ((ad st).names.lookup y.1 = some .cell /\ ((cellsFrom (s.heap.objs.size + 1) (ad st).names []).lookup y.1).isSome = true) := fun ⟨n, v⟩ hy => by
  rcases S.par n (List.of_mem_zip hy).1 with z | z
  ·exact .inl z
  ·exact .inr ⟨z, PySem.W.cellsFrom_some _ _ _ (.inl z)⟩
 refine codeAny_call_function hr.depth (KX _ _ lk) rfl S.co S.gen rfl (PySem.W.codeRec_of KX hcd) (hb _ _ _ _ ?_)
 refine wpAny_newFunctionEnv_cells S.kind hkd fun env he s1 y => ?_
 subst he
 refine ⟨lim.keeps y.toInCall.keep, codeAny_func ?_⟩
 obtain ⟨t, ht, hq⟩ := hbody cdv A outer s H vs Q E (hr.deeper _) hsp
 have I : Inv (fT (CXR P w) P w K mg base N qual (ad st) f cdv A outer s H E) [] (cE N vs) H s1 := oj S hr.hd e0 hl r y
 refine wpAny_mono (ht s1 (cE N vs) H _ I hq) (fun fl s' hs => ?_) fun e s' hs => hs
 have fin : ∀ {σ' : St} {H' : Hp} {v : V} {u : Value}, Inv (fT (CXR P w) P w K mg base N qual (ad st) f cdv A outer s H E) [] σ' H' s' -> RelV v u -> Q v H' -> CE outer P w H s Q u s' :=
  fun {σ' H' v u} J rv z => ⟨v, H', J.os, J.bare, J.base, J.hok, rv, z⟩
 cases fl with
 | ret u =>
   obtain ⟨v, σ', H', J, rv, z⟩ := hs
   exact fin J rv z
 | next =>
   obtain ⟨σ', H', J, z⟩ := hs
   exact fin (v := V.non) (u := Value.none) J rfl z
 | brk =>
   obtain ⟨_, _, _, z⟩ := hs
   exact False.elim z
 | cont =>
   obtain ⟨_, _, _, z⟩ := hs
   exact False.elim z
section
variable {M : Model} {A : Around} {E : Value -> Shared -> Prop} {h : Heap} {g : Array GenState} {d : Drawn} {t : Nat} {os : OsState}
variable {nm qn : Str} {C N : Addr} {bs bm : List Value} {hdct : Bool} {sn : List Str} {sub : List Value} {ab : Bool} {col : Option Bool} {dd : Option Addr} {k0 k1 k2 k3 k5 : Option Value} {newId : String}
variable {nm' qn' : Str} {C' N' : Addr} {bs' bm' : List Value} {hdct' : Bool} {sn' : List Str} {sub' : List Value} {ab' : Bool} {col' : Option Bool} {dd' : Option Addr} {j0 j1 j2 j3 j5 : Option Value} {newId' : String}
theorem sw {e : Addr} {oe : Obj} {Q : Bool -> Shared -> Prop}
  (hC : h.get? C = some (excClassObj nm qn C N bs bm hdct sn sub ab col dd k0 k1 k2 k3 k5 newId)) (hR : h.get? C' = some (excClassObj nm' qn' C' N' bs' bm' hdct' sn' sub' ab' col' dd' j0 j1 j2 j3 j5 newId'))
  (he : h.get? e = some oe) (hcls : oe.cls = .ref C) (hb : bm'.contains (.type "BaseException") = true) (hs : (Value.ref C :: bm).contains (.ref C') = true) (hq : Q true ⟨h, g, d, t, os⟩) :
  wpAny M A (excMatches (.ref e) (.ref C')) Q E ⟨h, g, d, t, os⟩ := by
 have c1 : (Value.ref C' :: bm').contains (.type "BaseException") = true := by rw [List.contains_cons, hb, Bool.or_true]
 have f := tc_notTuple
 unfold excMatches
 repeat (first
  | (with_reducible refine wpAny_loadPart_at he ?_; rw [hcls])
  | with_reducible refine wpAny_loadPart_at hR ?_
  | (with_reducible refine wpAny_isSubtype_exc hR ?_; rw [c1])
  | (with_reducible refine wpAny_isSubtype_exc hC ?_; rw [hs])
  | wp_step)
 exact hq
end
def vk (X : Cx) (a : Addr) : Cx := { X with A := X.A.mark (some (.ref a)), calm := false, xe := fun _ _ => False }
theorem vR {X : Cx} {a : Addr} {pins : List (Addr × Obj)} {σ : St} {H : Hp} {s : Shared} (I : Inv X pins σ H s) : Inv (vk X a) pins σ H s :=
 ⟨⟨I.ok.mod, I.ok.kind, I.ok.glob, I.ok.blt, I.ok.above, I.ok.inj, I.ok.has, I.ok.cab, (fun z => Bool.noConfusion (show false = true from z)), I.ok.frames, I.ok.stk, I.ok.exf, I.ok.bs, I.ok.bsz, I.ok.noex, I.ok.exfs, I.ok.funs, I.ok.frf⟩,
   I.os, I.bare, I.base, I.loc, I.cell, I.free, I.freeC, I.pin, I.hok, I.len⟩
theorem Aw {X : Cx} {a : Addr} {pins : List (Addr × Obj)} {σ : St} {H : Hp} {s : Shared} (ok : X.Ok) (I : Inv (vk X a) pins σ H s) : Inv X pins σ H s :=
 ⟨ok, I.os, I.bare, I.base, I.loc, I.cell, I.free, I.freeC, I.pin, I.hok, I.len⟩
def qm (X : Cx) : St := List.replicate X.N.length none
def Ca (X : Cx) (R : Addr) (i : Nat) (tb : XK -> TS) (th : TS) : TS := fun D σ H =>
 tb (fun v _ H1 => ∃ a C dx, v = .ref a /\ H1 a = some (.ext (isX a C dx)) /\ rj X.K C = true /\ mroIn X.K C (.ref R) = some true /\
  th { nx := fun _ _ => False, rt := D.rt } ((qm X).set i (some (.ref a))) H1) D σ H
theorem uT {X : Cx} {i : Nat} {n x : Str} {np hpos pos : Pos} {body : List Stmt} {b0 : Stmt} {suite : List Stmt} {tb : XK -> TS} {th : TS} {R : Addr} (p : qo X) (hN : X.N.Nodup) (hi : X.N[i]? = some n) (hl : X.env.scope.names.lookup n = some .local)
  (hg : Gl X x) (hm : X.mg x = some (.ref R)) (hR : rj X.K R = true) (hbody : ∀ (xe : Value -> Shared -> Prop) (E1 : XK), Throws (X.wish xe) E1 -> PSs (X.wish xe) body (tb E1)) (hsuite : ∀ a, PSs (vk X a) (b0 :: suite) th)
  (hdb : (x == ("__debug__" : Str)) = false := by decide) :
  PS0 X (.Try body [.ExceptHandler (some (.Name x np)) (some n) (b0 :: suite) hpos] [] [] pos) (Ca X R i tb th) := by
 intro s σ H D I h
 refine wpAny_Try_except ?_
 have T : Throws (X.wish fun e s1 => wpAny (model X.prog X.w) X.A (noteFrame e X.env) (fun _ s2 => wpAny (model X.prog X.w) X.A (setFlight e none) (fun _ s3 =>
   wpAny (model X.prog X.w) X.A (handleBy e X.env [.ExceptHandler (some (.Name x np)) (some n) (b0 :: suite) hpos]) (SP X [] D) X.xe s3) X.xe s2) X.xe s1)
   (fun v _ H1 => ∃ a C dx, v = .ref a /\ H1 a = some (.ext (isX a C dx)) /\ rj X.K C = true /\ mroIn X.K C (.ref R) = some true /\ th { nx := fun _ _ => False, rt := D.rt } ((qm X).set i (some (.ref a))) H1) := by
  intro σ1 H1 s1 a C0 dx0 I1 _ hsz hr hE
  obtain ⟨a', C, dx, ea, ha, hC, hsub, hth⟩ := hE
  cases ea
  have I1 := I1.unwish
  have ok := I1.ok
  obtain ⟨B, b1, b2, b3, ⟨b4, _⟩, b5⟩ := I1.noted p ha hsz hr
  show wpAny _ _ (noteFrame (.ref a) X.env) _ _ s1
  rw [p.stk] at b3
  have fr : X.A.frames = some (X.env :: X.outer) := by rw [ok.frames, p.stk]
  refine xT (n := X.s_0.heap.objs.size) fr b3 p.fr (b4 rfl) b1 b2 I1.sz fun h2 nn => ?_
  obtain ⟨I2, r2, t2, k2, f2⟩ := b5 _ h2 (by rw [p.stk]; exact nn)
  refine pv (n := X.s_0.heap.objs.size) (s := { s1 with heap := h2 }) k2 f2 t2 fun h3 n3 => ?_
  obtain ⟨I3, r3, _⟩ := b5 _ h3 ⟨n3.1, n3.2.1, n3.2.2.1, StirX.trans nn.2.2.2 n3.2.2.2⟩
  obtain ⟨_, _, _, _, bm, _, _, _, _, _, _, _, _, _, _, cd, lC, htl, hc, hmr, _⟩ := dP hC
  obtain ⟨_, _, _, _, bmR, _, _, _, _, _, _, _, _, _, _, cdR, lR, htR, _⟩ := dP hR
  have hcon : (Value.ref C :: bm).contains (.ref R) = true := by
   unfold mroIn at hsub
   rw [hc, Option.bind_some, hmr, if_neg (by simp)] at hsub
   exact Option.some.inj hsub
  obtain ⟨ox, vs, x1, x2, _, _⟩ := (I3.hok a _ ha).1
  refine wpAny_handleBy_cons (codeAny_handlers_test (fH (X := vk X a) (vR I3) hg hm ?_ hdb)) (by intro z; cases z)
  refine sw (I3.kIn _ _ lC) (I3.kIn _ _ lR) x1 x2 (jC htR).hasBase hcon ?_
  show codeAny _ _ _ _ _
  refine codeAny_handlers_suite_as ?_
  obtain ⟨B', c1, c2, c3, ⟨_, c4⟩, c5⟩ := I3.noted p ha hsz r3
  obtain ⟨oe, ws, y1, y2, y3⟩ := id r3
  have tr : dS X.s_0.heap.objs.size h3 B' a (.ref C) (some dx) .none := n3.2.2.1 |> fun ⟨oe', vs', T', _, _, z1, _, z2, z3, _⟩ => c4 ⟨oe', vs', T', z1, z2, z3⟩
  refine pv (n := X.s_0.heap.objs.size) (s := { s1 with heap := h3 }) c1 c3 tr fun h4 n4 => ?_
  obtain ⟨I4, r4, _⟩ := c5 _ h4 n4
  refine o0 (X := vk X a) (vR I4) hN hi (.inl hl) (v := .ref a) rfl (fun s5 I5 _ => ?_) (.inr hl)
  have hlen : ((qm X).set i (some (V.ref a))).length = (σ1.set i (some (V.ref a))).length := by
   rw [List.length_set, List.length_set, I1.len]
   exact List.length_replicate
  have I6 := I5.weak (σ' := (qm X).set i (some (.ref a))) hlen fun j v z => by
   by_cases hj : j = i
   ·subst hj
    have lt : j < X.N.length := (List.getElem?_eq_some_iff.mp hi).1
    rw [List.getElem?_set_self (by show j < (qm X).length; unfold qm; rw [List.length_replicate]; exact lt)] at z
    rw [List.getElem?_set_self (by rw [I1.len]; exact lt)]
    exact z
   ·rw [List.getElem?_set_ne (Ne.symm hj)] at z
    unfold qm at z
    rw [List.getElem?_replicate] at z
    split at z <;> cases z
  refine wpAny_mono (hsuite a [] s5 _ H1 { nx := fun _ _ => False, rt := D.rt } I6 hth) (fun fl s6 q => ?_) fun _ _ z => False.elim z
  cases fl with
  | next => obtain ⟨_, _, _, z⟩ := q; exact z.elim
  | brk => obtain ⟨_, _, _, z⟩ := q; exact (show False from z).elim
  | cont => obtain ⟨_, _, _, z⟩ := q; exact (show False from z).elim
  | ret u =>
    obtain ⟨v, σ7, H7, I7, rv, hv⟩ := q
    have I7 := Aw ok I7
    obtain ⟨m, hn, _⟩ := id I7.loc
    refine wpAny_nameGoes hl hn (by rw [ok.kind]; rfl) fun h8 m8 hn8 hs8 => ?_
    obtain ⟨oL, _, _, hoL, _⟩ := id hn
    refine ⟨v, qm X, H7, ⟨ok, I7.os, I7.bare, ⟨fun b o e nb hb hx => ?_, fun b o e nb hb hx => ?_, I7.base.free, fun b o e hx => ?_, I7.base.tups, I7.base.frzs, I7.base.tbls⟩, ⟨m8, hn8, fun j y v' _ e2 _ => ?_⟩, fun y c e => ?_, I7.free, I7.freeC, fun q hq => ?_, fun b ob e => ?_, ?_⟩, rv, hv⟩
    ·exact (hs8.2 b (Nat.ne_of_lt (Nat.lt_of_lt_of_le (Heap.lt_size e) ok.above))).trans (I7.base.keep b o e nb hb hx)
    ·obtain ⟨sl, e1⟩ := I7.base.slot b o e nb hb hx
     exact ⟨sl, (hs8.2 b (Nat.ne_of_lt (Nat.lt_of_lt_of_le (Heap.lt_size e) ok.above))).trans e1⟩
    ·obtain ⟨o', e1⟩ := I7.base.there b o e hx
     exact ⟨o', (hs8.2 b (Nat.ne_of_lt (Nat.lt_of_lt_of_le (Heap.lt_size e) ok.above))).trans e1⟩
    ·unfold qm at e2
     rw [List.getElem?_replicate] at e2
     split at e2 <;> cases e2
    ·obtain ⟨v', o', g1, g2⟩ := I7.cell y c e
     exact ⟨v', o', (hs8.2 c (I7.cne y c e)).trans g1, g2⟩
    ·rw [p.pn] at hq
     exact absurd hq (by simp)
    ·refine (I7.hok b ob e).stay (fun c w' hc q => (hs8.2 c ?_).trans q) (fun _ q => q) fun _ _ q => q
     rintro rfl
     rcases hc with rfl | hc
     ·rw [I7.free] at e; cases e
     ·rw [I7.free] at hc; cases hc
    ·exact List.length_replicate
 refine wpAny_mono (hbody _ _ T [] s σ H D (I.wish _) h) (fun fl s1 q => ?_) fun _ _ z => z
 cases fl with
 | next => exact wpAny_execs_nil q.unwish
 | ret v => exact q.unwish
 | brk => exact q.unwish
 | cont => exact q.unwish
end L2
namespace L2
open PySem PySem.Spec PyProof.Rows
section
variable {X : Cx}
theorem PE.imp {e : Expr} {t t' : TE} (h : PE X e t) (k : ∀ σ H Q, t' σ H Q -> t σ H Q) : PE X e t' := fun pins s σ H Q I q => h pins s σ H Q I (k σ H Q q)
theorem PS.imp {e : Stmt} {t t' : TS} (h : PS X e t) (k : ∀ D σ H, t' D σ H -> t D σ H) : PS X e t' := fun pins s σ H D I q => h pins s σ H D I (k D σ H q)
theorem OpR.imp {f : Value -> Value -> Sem Value} {r r' : R2} (h : OpR X f r) (k : ∀ x y H Q, r' x y H Q -> r x y H Q) : OpR X f r' := fun pins s σ H x y v u Q I rx ry q => h pins s σ H x y v u Q I rx ry (k _ _ _ _ q)
theorem CallR.imp {f : Value} {r r' : List V -> Hp -> VK -> Prop} (h : CallR X f r) (k : ∀ xs H Q, r' xs H Q -> r xs H Q) : CallR X f r' := fun pins s σ H xs us Q I rx q => h pins s σ H xs us Q I rx (k _ _ _ q)
def cV (i : Nat) : TE := fun σ H Q => match σ[i]? with | some (some v) => Q v H | _ => False
theorem q_v (i : Nat) {x : Str} {pos : Pos} (hN : X.N[i]? = some x := by rfl) (hv : Vis X.env.scope x := by first | exact Or.inl rfl | exact Or.inr (Or.inl rfl) | exact Or.inr (Or.inr rfl)) (hd : (x == ("__debug__" : Str)) = false := by decide)
  (hcd : (x == ("__classdict__" : Str)) = false := by decide) : PE X (.Name x pos) (cV i) := (vK hN hv hd hcd).imp fun σ H Q q => by
 unfold cV at q
 split at q
 ·rename_i v e
  exact ⟨v, e, q⟩
 ·exact q.elim
def GC (mg : Str -> Option Value) (x : Str) (v : V) : Prop := ∃ u, mg x = some u /\ RelV v u
theorem q_g {x : Str} {v : V} {pos : Pos} (g : GC X.mg x v) (hg : Gl X x := by rfl) (hd : (x == ("__debug__" : Str)) = false := by decide) : PE X (.Name x pos) (tC v) :=
 let ⟨_, hm, r⟩ := g; sR hg hm r hd
def oI (g : Int -> Int -> V) : R2 := fun x y H Q => match x, y with | .int i, .int j => Q (g i j) H | _, _ => False
theorem mL {g : Int -> Int -> V} (x y : V) (H : Hp) (Q : VK) (h : oI g x y H Q) : rI0 g x y H Q := by
 unfold oI at h
 split at h
 ·exact ⟨_, _, rfl, rfl, h⟩
 ·exact h.elim
theorem fZ : OpR X (binaryOp .Add) (oI fun i j => .int (i + j)) := AH.imp mL
theorem rg : OpR X (binaryOp .Sub) (oI fun i j => .int (i - j)) := Al.imp mL
theorem uX : OpR X (compareOp .Lt) (oI fun i j => .bl (decide (i < j))) := C1.imp mL
theorem nO : OpR X (compareOp .LtE) (oI fun i j => .bl (decide (i <= j))) := Cp.imp mL
theorem qU : OpR X (compareOp .Gt) (oI fun i j => .bl (decide (j < i))) := BR.imp mL
def zf : R2 := fun x y H Q => match x, y with | .int i, .int j => (-(2 ^ 64) < i /\ i < 2 ^ 64) /\ Q (.int (i * j)) H | _, _ => False
theorem ye : OpR X (binaryOp .Mult) zf := yW.imp fun x y H Q h => by
 unfold zf at h
 split at h
 ·exact ⟨_, _, rfl, rfl, .inl h.1, h.2⟩
 ·exact h.elim
def oEq : R2 := fun x y H Q => match x, y with | .int i, .int j => Q (.bl (decide (i = j))) H | .str a, .str b => Q (.bl (decide (a = b))) H | _, _ => False
def oNe : R2 := fun x y H Q => match x, y with | .int i, .int j => Q (.bl (!decide (i = j))) H | .str a, .str b => Q (.bl (!decide (a = b))) H | _, _ => False
theorem CG (i j : Int) : decide (V.int i = V.int j) = decide (i = j) := by by_cases h : i = j <;> simp [h]
theorem Cg (a b : Str) : decide (V.str a = V.str b) = decide (a = b) := by by_cases h : a = b <;> simp [h]
theorem bP : OpR X (compareOp .Eq) oEq := C4.imp fun x y H Q h => by
 unfold oEq at h
 split at h
 ·exact ⟨rfl, by rw [CG]; exact h⟩
 ·exact ⟨rfl, by rw [Cg]; exact h⟩
 ·exact h.elim
theorem uJ : OpR X (compareOp .NotEq) oNe := Bx.imp fun x y H Q h => by
 unfold oNe at h
 split at h
 ·exact ⟨rfl, by rw [CG]; exact h⟩
 ·exact ⟨rfl, by rw [Cg]; exact h⟩
 ·exact h.elim
def Bt : R2 := fun x y H Q => match y with | .non => (match x with | .non => Q (.bl true) H | _ => Q (.bl false) H) | _ => False
theorem ve : OpR X (compareOp .Is) Bt := yM.imp fun x y H Q h => by
 cases y <;> first | exact h.elim | skip
 refine ⟨rfl, ?_⟩
 cases x <;> first | exact h | (rw [decide_eq_false (by intro z; cases z)]; exact h)
def cT (t : TE) : TT := fun σ H Q => t σ H fun x H1 => match x with | .bl c => Q c H1 | _ => False
theorem b7 {a b : Expr} {pos : Pos} {op : CmpOp} {r : R2} {ta tb : TE} (ho : OpR X (compareOp op) r) (ha : PE X a ta) (hb : PE X b tb) (hm : behindInMarks op b = false := by first | exact bq _ (by decide) (by decide) | rfl) :
  PT X (.Compare a [op] [b] pos) (cT (tOp r ta tb)) := by
 intro pins s σ H Q I h
 refine wpAny_isTrue_Compare1 (thn (ha pins s σ H _ I h) fun v s1 ⟨x, H1, I1, r1, q1⟩ => thn (hb pins s1 σ H1 _ I1 q1) fun u s2 ⟨y, H2, I2, r2, q2⟩ => thn (ho pins s2 σ H2 x y v u _ I2 r1 r2 q2) fun c s3 ⟨z, H3, I3, r3, q3⟩ => ?_) hm
 cases z <;> first | exact q3.elim | skip
 cases r3
 exact wpAny_truthy_bool ⟨H3, I3, q3⟩
theorem c6 {e : Expr} {t : TE} (h : PE X e t) (he : ∀ whole, isTrue e X.env whole = (do let v <- whole; standAt e.pos; holding [v] (truthy v)) := by intro _; rfl) : PT X e (cT t) := by
 intro pins s σ H Q I hw
 refine isTrue_plain (thn (h pins s σ H _ I hw) fun v s1 ⟨x, H1, I1, r1, q1⟩ => ?_) (he _)
 cases x <;> first | exact q1.elim | skip
 cases r1
 exact wpAny_truthy_bool ⟨H1, I1, q1⟩
def cCh (r r' : R2) (ta tb tc : TE) : TE := fun σ H Q => ta σ H fun x H1 => tb σ H1 fun y H2 => r x y H2 fun z H3 => match z with | .bl k => (if k = true then tc σ H3 fun w H4 => r' y w H4 Q else Q (.bl false) H3) | _ => False
theorem zZ {a b c : Expr} {pos : Pos} {op op' : CmpOp} {r r' : R2} {ta tb tc : TE} (ho : OpR X (compareOp op) r) (ho' : OpR X (compareOp op') r') (ha : PE X a ta) (hb : PE X b tb) (hc : PE X c tc)
  (hm : lastMarks [op, op'] [b, c] = false := by with_unfolding_all rfl) : PE X (.Compare a [op, op'] [b, c] pos) (cCh r r' ta tb tc) := by
 intro pins s σ H Q I h
 refine Compare_chain (thn (ha pins s σ H _ I h) fun v s1 ⟨x, H1, I1, r1, q1⟩ => chain_link (thn (hb pins s1 σ H1 _ I1 q1) fun u s2 ⟨y, H2, I2, r2, q2⟩ =>
  thn (ho pins s2 σ H2 x y v u _ I2 r1 r2 q2) fun d s3 ⟨z, H3, I3, r3, q3⟩ => ?_)) hm
 cases z <;> first | exact q3.elim | skip
 rename_i k
 cases r3
 refine wpAny_truthy_bool ?_
 cases k with
 | false => exact ite_ff ⟨.bl false, H3, I3, rfl, q3⟩
 | true => exact ite_tt (chain_last (thn (hc pins s3 σ H3 _ I3 q3) fun w' s4 ⟨z', H4, I4, r4, q4⟩ => ho' pins s4 σ H4 y z' u w' Q I4 r2 r4 q4))
theorem yh {a b c : Expr} {pos : Pos} {op op' : CmpOp} {r r' : R2} {ta tb tc : TE} (ho : OpR X (compareOp op) r) (ho' : OpR X (compareOp op') r') (ha : PE X a ta) (hb : PE X b tb) (hc : PE X c tc)
  (hm : lastMarks [op, op'] [b, c] = false := by with_unfolding_all rfl) : PT X (.Compare a [op, op'] [b, c] pos) (cT (cCh r r' ta tb tc)) := by
 intro pins s σ H Q I h
 refine isTrue_chain (thn (ha pins s σ H _ I h) fun v s1 ⟨x, H1, I1, r1, q1⟩ => test_link (thn (hb pins s1 σ H1 _ I1 q1) fun u s2 ⟨y, H2, I2, r2, q2⟩ =>
  thn (ho pins s2 σ H2 x y v u _ I2 r1 r2 q2) fun d s3 ⟨z, H3, I3, r3, q3⟩ => ?_)) hm
 cases z <;> first | exact q3.elim | skip
 rename_i k
 cases r3
 refine wpAny_truthy_bool ?_
 cases k with
 | false => exact ite_ff ⟨H3, I3, q3⟩
 | true =>
   refine ite_tt (test_last (thn (hc pins s3 σ H3 _ I3 q3) fun w' s4 ⟨z', H4, I4, r4, q4⟩ => thn (ho' pins s4 σ H4 y z' u w' _ I4 r2 r4 q4) fun d' s5 ⟨z2, H5, I5, r5, q5⟩ => ?_))
   cases z2 <;> first | exact q5.elim | skip
   cases r5
   exact wpAny_truthy_bool ⟨H5, I5, q5⟩
def CT (ta tb : TE) : TE := fun σ H Q => ta σ H fun x H1 => match x with | .bl c => (if c = true then tb σ H1 Q else Q (.bl false) H1) | _ => False
def cOr (ta tb : TE) : TE := fun σ H Q => ta σ H fun x H1 => match x with | .bl c => (if c = true then Q (.bl true) H1 else tb σ H1 Q) | _ => False
def C5 (ta : TE) : TE := fun σ H Q => ta σ H fun x H1 => match x with | .bl c => Q (.bl (!c)) H1 | _ => False
theorem tN {a b : Expr} {rest : List Expr} {pos : Pos} {ta tb : TE} (ha : PE X a ta) (hb : PE X (.BoolOp .And (b :: rest) pos) tb) : PE X (.BoolOp .And (a :: b :: rest) pos) (CT ta tb) := by
 intro pins s σ H Q I h
 refine BoolOp_and (thn (ha pins s σ H _ I h) fun v s1 ⟨x, H1, I1, r1, q1⟩ => ?_)
 cases x <;> first | exact q1.elim | skip
 rename_i c
 cases r1
 refine wpAny_truthy_bool ?_
 cases c with
 | true => exact hb pins s1 σ H1 Q I1 q1
 | false => exact ⟨.bl false, H1, I1, rfl, q1⟩
theorem vh {a b : Expr} {rest : List Expr} {pos : Pos} {ta tb : TE} (ha : PE X a ta) (hb : PE X (.BoolOp .Or (b :: rest) pos) tb) : PE X (.BoolOp .Or (a :: b :: rest) pos) (cOr ta tb) := by
 intro pins s σ H Q I h
 refine BoolOp_or (thn (ha pins s σ H _ I h) fun v s1 ⟨x, H1, I1, r1, q1⟩ => ?_)
 cases x <;> first | exact q1.elim | skip
 rename_i c
 cases r1
 refine wpAny_truthy_bool ?_
 cases c with
 | false => exact hb pins s1 σ H1 Q I1 q1
 | true => exact ⟨.bl true, H1, I1, rfl, q1⟩
theorem yp {a : Expr} {pos : Pos} {ta : TE} (ha : PE X a ta) : PE X (.UnaryOp .Not a pos) (C5 ta) := by
 intro pins s σ H Q I h
 refine UnaryOp_ (thn (ha pins s σ H _ I h) fun v s1 ⟨x, H1, I1, r1, q1⟩ => ?_)
 cases x <;> first | exact q1.elim | skip
 rename_i c
 cases r1
 exact not_of (wpAny_truthy_bool ⟨.bl (!c), H1, I1, rfl, q1⟩)
def cF (C : Addr) (f : Str) (ta : TE) : TE := fun σ H Q => ta σ H fun x H1 => match x with | .ref a => ∃ dx fs v, H1 a = some (.ins C dx fs) /\ fs.lookup f = some v /\ Q v H1 | _ => False
theorem q_f {e : Expr} {f : Str} {pos : Pos} {ta : TE} {C : Addr} (cl : Cls X.K C) (na : NoAttr X.K C f) (he : PE X e ta) (hb : attributeBase e f X.env (eval e X.env) = eval e X.env := by rfl) : PE X (.Attribute e f pos) (cF C f ta) := by
 intro pins s σ H Q I h
 refine tq hb (thn (he pins s σ H _ I h) fun u s1 ⟨x, H1, I1, rx, q⟩ => ?_)
 cases x <;> first | exact q.elim | skip
 rename_i a
 obtain ⟨dx, fs, v, ea, l, q⟩ := q
 obtain rfl : u = Value.ref a := rx
 exact lW I1 ea cl na l fun u' s2 I2 ru => ⟨v, H1, I2, ru, q⟩
def cSF (C : Addr) (f : Str) (ta tv : TE) : TS := fun D σ H => tv σ H fun y H1 => ta σ H1 fun x H2 => match x with | .ref a => ∃ dx fs, H2 a = some (.ins C dx fs) /\ fs.length < 1000 /\ D.nx σ (upd H2 a (.ins C dx (fw f y fs))) | _ => False
theorem ng {o value : Expr} {f : Str} {pos pos' : Pos} {ta tv : TE} {C : Addr} (cl : Cls X.K C) (na : NoAttr X.K C f) (ha : PE X o ta) (hv : PE X value tv) (hs : swapsWith value (some (.Attribute o f pos')) pos.line X.env = pure false := by rfl) :
  PS X (.Assign [.Attribute o f pos'] value pos) (cSF C f ta tv) := by
 intro pins s σ H D I h
 refine plainObj_wpAny_Assign_Attribute (thn (hv pins s σ H _ I h) fun u s1 ⟨y, H1, I1, ry, q⟩ => thn (ha pins s1 σ H1 _ I1 q) fun ov s2 ⟨x, H2, I2, rx, q2⟩ => ?_) hs
 cases x <;> first | exact q2.elim | skip
 rename_i a
 obtain ⟨dx, fs, ea, l, q2⟩ := q2
 obtain rfl : ov = Value.ref a := rx
 exact mt I2 ea cl na l ry fun s3 I3 => ⟨σ, _, I3, q2⟩
def cAF (C : Addr) (f : Str) (g : Int -> Int -> Int) (ta tv : TE) : TS := fun D σ H => ta σ H fun x H1 => match x with
 | .ref a => ∃ dx fs i, H1 a = some (.ins C dx fs) /\ fs.lookup f = some (.int i) /\ tv σ H1 fun y H2 => (match y with | .int j => H2 a = some (.ins C dx fs) /\ fs.length < 1000 /\ D.nx σ (upd H2 a (.ins C dx (fw f (.int (g i j)) fs))) | _ => False)
 | _ => False
theorem yU {o value : Expr} {f : Str} {tpos pos : Pos} {ta tv : TE} {C : Addr} {op : Operator} {g : Int -> Int -> Int} (cl : Cls X.K C) (na : NoAttr X.K C f) (hop : xj X op (fun x y H Q => ∃ i j, x = .int i /\ y = .int j /\ Q (.int (g i j)) H)) (ha : PE X o ta) (hv : PE X value tv) :
  PS X (.AugAssign (.Attribute o f tpos) op value pos) (cAF C f g ta tv) := by
 intro pins s σ H D I h
 refine wpAny_AugAssign_AttributeAny (thn (ha pins s σ H _ I h) fun ov s1 ⟨x, H1, I1, rx, q⟩ => ?_)
 cases x <;> first | exact q.elim | skip
 rename_i a
 obtain ⟨dx, fs, i, ea, l, q⟩ := q
 obtain rfl : ov = Value.ref a := rx
 refine lW I1 ea cl na l fun u s2 I2 ru => thn (hv pins s2 σ H1 _ I2 q) fun w3 s3 ⟨y, H2, I3, ry, q3⟩ => ?_
 cases y <;> first | exact q3.elim | skip
 rename_i j
 obtain ⟨ea', l', q4⟩ := q3
 refine thn (hop pins s3 σ H2 (.int i) (.int j) u w3 (fun z H3 => z = .int (g i j) /\ H3 = H2) I3 ru ry ⟨i, j, rfl, rfl, rfl, rfl⟩) fun w4 s4 ⟨z, H3, I4, rz, e1, e2⟩ => ?_
 subst e1 e2
 exact mt I4 ea' cl na l' rz fun s5 I5 => ⟨σ, _, I5, q4⟩
def zd (i : Nat) (g : Int -> Int -> Int) (te : TE) : TS := fun D σ H => match σ[i]? with | some (some (.int a)) => te σ H fun y H1 => (match y with | .int b => D.nx (σ.set i (some (.int (g a b)))) H1 | _ => False) | _ => False
theorem qP {i : Nat} {x : Str} {e : Expr} {te : TE} {op : Operator} {g : Int -> Int -> Int} {pos pos' : Pos} (hop : xj X op (fun x y H Q => ∃ i j, x = .int i /\ y = .int j /\ Q (.int (g i j)) H)) (he : PE X e te) (hN : X.N.Nodup) (hi : X.N[i]? = some x) (hx : Loc X.env.scope x)
  (hf : X.fn x = true ∨ X.env.scope.names.lookup x = some .local := by first | exact .inl rfl | exact .inr rfl) : PS X (.AugAssign (.Name x pos') op e pos) (zd i g te) :=
 (AV (ti := fun x y H Q => ∃ i j, x = .int i /\ y = .int j /\ Q (.int (g i j)) H) hN hi hx he (fun pins s σ H x y v u Q I rx ry q => hop pins s σ H x y v u Q I rx ry q) hf).imp fun D σ H h => by
  unfold zd at h
  split at h
  ·rename_i a ea
   refine ⟨.int a, ea, ?_⟩
   exact (show te σ H _ from by
    have mono : (fun y H1 => (match y with | .int b => D.nx (σ.set i (some (.int (g a b)))) H1 | _ => False)) = (fun (y : V) H1 => ∃ i' j, V.int a = .int i' /\ y = .int j /\ D.nx (σ.set i (some (V.int (g i' j)))) H1) := by
     funext y H1
     apply propext
     constructor
     ·intro q
      cases y <;> first | exact q.elim | exact ⟨_, _, rfl, rfl, q⟩
     ·rintro ⟨i', j, e1, rfl, q⟩
      cases e1
      exact q
    rw [<- mono]
    exact h)
  ·exact h.elim
theorem aq {i : Nat} {x : Str} {e : Expr} {te : TE} {pos pos' : Pos} (he : PE X e te) (hN : X.N.Nodup) (hi : X.N[i]? = some x := by rfl) (hx : Loc X.env.scope x := by first | exact Or.inl rfl | exact Or.inr rfl) (hs : swapsWith e (some (.Name x pos')) pos.line X.env = pure false := by rfl)
  (hf : X.fn x = true ∨ X.env.scope.names.lookup x = some .local := by first | exact .inl rfl | exact .inr rfl) : PS X (.Assign [.Name x pos'] e pos) (vT te (o7 i)) := zn hN hi hx he hs hf
def oIx (K : Frag) : R2 := fun x y H Q => match x, y with | .ref p, .int i => ∃ xs v, SqL K H p xs /\ atI xs i = some v /\ Q v H | _, _ => False
def wG (K : Frag) : R2 := fun x y H Q => match x, y with | .ref p, .int i => ∃ xs v, SqT K H p xs /\ atI xs i = some v /\ Q v H | _, _ => False
theorem eX {a b : Expr} {pos : Pos} {ta tb : TE} (ha : PE X a ta) (hb : PE X b tb) (hs : pF b := by intro _ _; rfl) : PE X (.Subscript a b pos) (tOp (oIx X.K) ta tb) :=
 yf (r := oIx X.K) (fun val sl pins s σ H x y v u Q I rx ry q => wX val sl pins s σ H x y v u Q I rx ry (by
  unfold oIx at q
  split at q
  ·obtain ⟨xs, v, h1, h2, q⟩ := q
   exact ⟨_, xs, _, v, rfl, rfl, h1, h2, q⟩
  ·exact q.elim)) ha hb hs
theorem gb {a b : Expr} {pos : Pos} {ta tb : TE} (ha : PE X a ta) (hb : PE X b tb) (hs : pF b := by intro _ _; rfl) : PE X (.Subscript a b pos) (tOp (wG X.K) ta tb) :=
 yf (r := wG X.K) (fun val sl pins s σ H x y v u Q I rx ry q => z5 val sl pins s σ H x y v u Q I rx ry (by
  unfold wG at q
  split at q
  ·obtain ⟨xs, v, h1, h2, q⟩ := q
   exact ⟨_, xs, _, v, rfl, rfl, h1, h2, q⟩
  ·exact q.elim)) ha hb hs
def Ap (K : Frag) : List V -> Hp -> VK -> Prop := fun xs H Q => match xs with | [.ref p] => ∃ ys, SqL K H p ys /\ Q (.int ys.length) H | _ => False
def wb : List V -> Hp -> VK -> Prop := fun xs H Q => match xs with | [.str z] => z.length <= sizeLine /\ Q (.int z.length) H | _ => False
theorem cy {x : Str} {p pos : Pos} {e : Expr} {te : TE} (hm : X.mg "len" = none) (ha : PE X e te) (hg : Gl X "len" := by rfl) (he : starEach [e] X.env = [(false, eval e X.env)] := by rfl) : PE X (.Call (.Name "len" p) [e] [] pos) (tCB (Ap X.K) (li te nD)) :=
 jD (oW.imp fun xs H Q q => by
  unfold Ap at q
  split at q
  ·obtain ⟨ys, h, q⟩ := q
   exact ⟨_, ys, rfl, .inl h, q⟩
  ·exact q.elim) hg hm PySem.boot_len (a8 ha aa he) (by decide) (by decide) he rfl
theorem zO {x : Str} {p pos : Pos} {e : Expr} {te : TE} (hm : X.mg "len" = none) (ha : PE X e te) (hg : Gl X "len" := by rfl) (he : starEach [e] X.env = [(false, eval e X.env)] := by rfl) : PE X (.Call (.Name "len" p) [e] [] pos) (tCB wb (li te nD)) :=
 jD (pV.imp fun xs H Q q => by
  unfold wb at q
  split at q
  ·exact ⟨_, rfl, q.1, q.2⟩
  ·exact q.elim) hg hm PySem.boot_len (a8 ha aa he) (by decide) (by decide) he rfl
end
structure Fn (P : Program) (w : World) (K : Frag) (mg : Str -> Option Value) (base : Heap) (x : Str) (k : Nat) (ps : List Str) (sp : Sp) : Prop where
 ex : ∃ f fd, mg x = some (.ref f) /\ FnOk P w K mg base (CXR P w) k f fd ps sp /\ keepIn K (.ref f) = true /\ Binds K fd ps []
theorem Fn.mono {P : Program} {w : World} {K : Frag} {mg : Str -> Option Value} {base : Heap} {x : Str} {j k : Nat} {ps : List Str} {sp : Sp} (F : Fn P w K mg base x j ps sp) (h : j <= k) : Fn P w K mg base x k ps sp :=
 let ⟨f, fd, h1, h2, h3, h4⟩ := F.ex; ⟨f, fd, h1, h2.mono h, h3, h4⟩
structure Md (P : Program) (w : World) (K : Frag) (mg : Str -> Option Value) (base : Heap) (C : Addr) (m : Str) (k : Nat) (ps : List Str) (sp : Sp) : Prop where
 ex : ∃ f fd, AJ K C m f /\ FnOk P w K mg base (CXR P w) k f fd ps sp /\ Binds K fd ps []
theorem Md.mono {P : Program} {w : World} {K : Frag} {mg : Str -> Option Value} {base : Heap} {C : Addr} {m : Str} {j k : Nat} {ps : List Str} {sp : Sp} (F : Md P w K mg base C m j ps sp) (h : j <= k) : Md P w K mg base C m k ps sp :=
 let ⟨f, fd, h1, h2, h4⟩ := F.ex; ⟨f, fd, h1, h2.mono h, h4⟩
def iG (C : Addr) (n : Nat) (g : List V -> List (Str × V)) : Sp := fun vs H Q _ => match vs with | .ref p :: args => args.length = n /\ ∃ dx, H p = some (.ins C dx []) /\ Q .non (upd H p (.ins C dx (g args))) | _ => False
structure Mkr (P : Program) (w : World) (K : Frag) (mg : Str -> Option Value) (base : Heap) (x : Str) (C : Addr) (k n : Nat) (ps : List Str) (g : List V -> List (Str × V)) : Prop where
 bnd : mg x = some (.ref C)
 ex : ∃ f fd, Mk K C f /\ FnOk P w K mg base (CXR P w) k f fd ps (iG C n g) /\ Binds K fd ps []
section
variable {X : Cx} {k n : Nat} {C : Addr} {ps : List Str} {sp : Sp} {E : XK} {x m : Str} {p pos apos : Pos} {e o : Expr} {es : List Expr} {ta : TE} {t : TA} {g : List V -> List (Str × V)}
def cC (sp : Sp) (E : XK) (t : TA) : TE := fun σ H Q => t σ H fun vs H1 => sp vs H1 Q E
theorem CK (sp : Sp) (E : XK) (t : TA) : tT sp [] E t = cC sp E t := by
 funext σ H Q
 unfold tT cC
 simp only [List.append_nil]
theorem q_c (c : Fn X.prog X.w X.K X.mg X.base x k ps sp) (hr : Room k X.A) (hx : d8 (CXR X.prog X.w) X E) (ha : PA X (e :: es) t) (hg : Gl X x := by rfl) (hdb : (x == ("__debug__" : Str)) = false := by decide)
  (he : starEach (e :: es) X.env = (false, eval e X.env) :: starEach es X.env := by rfl) (hpl : (backTo pos (starEach es X.env)).any (·.1) = false := by rfl) : PE X (.Call (.Name x p) (e :: es) [] pos) (cC sp E t) := by
 obtain ⟨f, fd, h1, h2, h3, h4⟩ := c.ex
 rw [<- CK]
 exact wT h2 hr hg h1 h3 h4 .nil hx ha hdb he hpl
def cM (C : Addr) (m : Str) (sp : Sp) (E : XK) (ta : TE) (t : TA) : TE := fun σ H Q => ta σ H fun x H1 => match x with | .ref a => ∃ dx fs, H1 a = some (.ins C dx fs) /\ fs.lookup m = none /\ t σ H1 fun vs H2 => sp (.ref a :: vs) H2 Q E | _ => False
theorem q_m {pl : Sem Bool} (cl : Cls X.K C) (c : Md X.prog X.w X.K X.mg X.base C m k ps sp) (hr : Room k X.A) (hx : d8 (CXR X.prog X.w) X E) (he : PE X o ta) (ha : PA X (e :: es) t)
  (hst : starEach (e :: es) X.env = (false, eval e X.env) :: starEach es X.env := by rfl) (hpl : (backTo pos (starEach es X.env)).any (·.1) = false := by rfl)
  (ht : eval (.Call (.Attribute o m apos) (e :: es) [] pos) X.env = (do
   let ov <- eval o X.env
   standAt apos.atName
   let (f, first) <- holding [ov] (getMethod ov m pl)
   callWith pos f first (backTo pos (starEach (e :: es) X.env)) (backToKw pos (keywordEach [] X.env))) := by rfl) :
  PE X (.Call (.Attribute o m apos) (e :: es) [] pos) (cM C m sp E ta t) := by
 obtain ⟨f, fd, hm, F, hb⟩ := c.ex
 intro pins s σ H Q I h
 refine PySem.W.methodCall_KW (pl := pl) (thn (he pins s σ H _ I h) fun u s1 ⟨x, H1, I1, rx, q⟩ => ?_) ht
 cases x <;> first | exact q.elim | skip
 rename_i a
 obtain ⟨dx, fs, ea, l, q⟩ := q
 obtain rfl : u = Value.ref a := rx
 refine mP I1 ea cl hm l ?_
 refine PySem.W.callWith_K (first := [.ref a]) (h₀ := X.base) I.ok.mod.kin hm.kp (thn (ha pos pins s1 σ H1 _ I1 q) fun us s2 ⟨vs, H2, I2, r, q2⟩ => ⟨I2.kIn, ?_⟩) hst hpl
 exact m9 (us := .ref a :: us) (vs := .ref a :: vs) (ds := []) (dvs := []) F hr hb .nil hx I2 (.cons rfl r) (by rw [List.append_nil]; exact q2)
theorem gj {pl : Sem Bool} (cl : Cls X.K C) (c : Md X.prog X.w X.K X.mg X.base C m k ps sp) (hr : Room k X.A) (hx : d8 (CXR X.prog X.w) X E) (he : PE X o ta)
  (ht : eval (.Call (.Attribute o m apos) [] [] pos) X.env = (do
   let ov <- eval o X.env
   standAt apos.atName
   let (f, first) <- holding [ov] (getMethod ov m pl)
   callWith pos f first (backTo pos (starEach [] X.env)) (backToKw pos (keywordEach [] X.env))) := by rfl) :
  PE X (.Call (.Attribute o m apos) [] [] pos) (cM C m sp E ta nD) := by
 obtain ⟨f, fd, hm, F, hb⟩ := c.ex
 intro pins s σ H Q I h
 refine PySem.W.methodCall_KW (pl := pl) (thn (he pins s σ H _ I h) fun u s1 ⟨x, H1, I1, rx, q⟩ => ?_) ht
 cases x <;> first | exact q.elim | skip
 rename_i a
 obtain ⟨dx, fs, ea, l, q⟩ := q
 obtain rfl : u = Value.ref a := rx
 refine mP I1 ea cl hm l ?_
 exact PySem.W.callWith_K0 (first := [.ref a]) I1.kIn hm.kp (m9 (us := [.ref a]) (vs := [.ref a]) (ds := []) (dvs := []) F hr hb .nil hx I1 (.cons rfl .nil) (by rw [List.append_nil]; exact q))
def cMk (C : Addr) (n : Nat) (g : List V -> List (Str × V)) (t : TA) : TE := fun σ H Q => t σ H fun vs H1 => vs.length = n /\ ∀ a dx, H1 a = none -> H1 dx = none -> dx ≠ a -> Q (.ref a) (upd (upd H1 dx (.own a)) a (.ins C dx (g vs)))
theorem Db (c : Mkr X.prog X.w X.K X.mg X.base x C k n ps g) (hr : Room (k + 1) X.A) (hx : d8 (CXR X.prog X.w) X E) (ha : PA X (e :: es) t) (hg : Gl X x := by rfl) (hdb : (x == ("__debug__" : Str)) = false := by decide)
  (he : starEach (e :: es) X.env = (false, eval e X.env) :: starEach es X.env := by rfl) (hpl : (backTo pos (starEach es X.env)).any (·.1) = false := by rfl) : PE X (.Call (.Name x p) (e :: es) [] pos) (cMk C n g t) := by
 obtain ⟨f, fd, M, F, hb⟩ := c.ex
 intro pins s σ H Q I h
 refine wpAny_Call_Name_kw (fH I hg c.bnd ?_ hdb)
 refine PySem.W.callWith_K (h₀ := X.base) I.ok.mod.kin M.kp (thn (ha pos pins s σ H _ I h) fun us s1 ⟨vs, H1, I1, r, hn, q⟩ => ⟨I1.kIn, ?_⟩) he hpl
 refine uN (ds := []) (dvs := []) M F hr hb .nil hx I1 r fun a dx h1 h2 h3 => ?_
 rw [List.append_nil]
 refine ⟨hn, dx, af, rfl, ?_⟩
 rw [dX]
 exact q a dx h1 h2 h3
end
end L2
namespace L2
open PySem PySem.Spec PyProof.Rows
structure nv (P : Program) (w : World) (K : Frag) (a : Addr) (kvs : List (Key × V)) : Prop where
 at_ : ∀ h : Heap, K.In h -> ∃ vs, KV kvs vs /\ h.DictOf (b8 P w) a vs
 nm : (a == sysModules) = false
def pG (w : World) : List DictEntry -> List (Key × V) -> Prop
 | [], [] => True
 | e :: es, (k, v) :: kvs => (lS k e.key = true /\ e.hash = Cr w k /\ RelV v e.val) /\ pG w es kvs
 | _, _ => False
theorem mU {P : Program} {w : World} : ∀ {es : List DictEntry} {kvs : List (Key × V)}, pG w es kvs -> ∃ vs : List (Key × Value), KV kvs vs /\ Pairs (b8 P w) es vs /\ vs.map (·.1) = kvs.map (·.1) /\ ∀ e ∈ es, ∃ k, (b8 P w).is k e.key = true /\ e.hash = (b8 P w).hash k
 | [], [], _ => ⟨[], .nil, .nil, rfl, fun e h => nomatch h⟩
 | [], _ :: _, h => h.elim
 | _ :: _, [], h => h.elim
 | e :: es, (k, v) :: kvs, ⟨⟨h1, h2, h3⟩, h⟩ => by
   obtain ⟨vs, a, b, c, d⟩ := mU (P := P) h
   refine ⟨(k, e.val) :: vs, .cons ⟨rfl, h3⟩ a, .cons h1 rfl b, by rw [List.map_cons, List.map_cons, c], fun e' he => ?_⟩
   rcases List.mem_cons.mp he with rfl | he
   ·exact ⟨k, h1, h2⟩
   ·exact d e' he
theorem jS {P : Program} {w : World} {K : Frag} {a : Addr} {kvs : List (Key × V)} {es : Array DictEntry} {ep : Nat} (l : K.lookup a = some { cls := .type "dict", data := .dict es ep }) (r : pG w es.toList kvs) (nd : (kvs.map (·.1)).Nodup) (nm : (a == sysModules) = false) : nv P w K a kvs :=
 ⟨fun h X => by
  obtain ⟨vs, b, c, d, e⟩ := mU (P := P) r
  exact ⟨vs, b, _, es, ep, X _ _ l, ⟨rfl, rfl, rfl⟩, rfl, fun x hx => e x (Array.mem_toList_iff.mpr hx), c, by rw [d]; exact nd⟩, nm⟩
section
variable {X : Cx} {a : Addr} {kvs : List (Key × V)} {o i d : Expr} {pos apos cpos : Pos} {ty td : TE}
def Aq (kvs : List (Key × V)) (neg : Bool) (ty : TE) : TE := fun σ H Q => ty σ H fun y H1 => match y with | .int n => Q (.bl (neg != (aZ kvs (Sum.inl n)).isSome)) H1 | .str z => Q (.bl (neg != (aZ kvs (Sum.inr z)).isSome)) H1 | _ => False
theorem kg {kvs : List (Key × V)} {Q : Key -> Prop} {y : V} (h : match y with | .int n => Q (Sum.inl n) | .str z => Q (Sum.inr z) | _ => False) : ∃ k, y = kV k /\ Q k := by
 cases y <;> first | exact h.elim | exact ⟨Sum.inl _, rfl, h⟩ | exact ⟨Sum.inr _, rfl, h⟩
theorem Cy (T : nv X.prog X.w X.K a kvs) (hi : PE X i ty) (ho : PE X o (tC (.ref a))) : PC X .In i o (Aq kvs false ty) := by
 intro pins s σ H Q I h
 refine thn (hi pins s σ H _ I h) fun iv s1 ⟨y, H1, I1, ry, q1⟩ => ?_
 obtain ⟨k, ek, q9⟩ := kg (kvs := kvs) (Q := fun k => Q (.bl (false != (aZ kvs k).isSome)) H1) q1
 subst ek
 refine thn (ho pins s1 σ H1 (fun v H' => v = .ref a /\ H' = H1) I1 ⟨rfl, rfl⟩) fun u s2 ⟨x, H2, I2, rx, e1, e2⟩ => ?_
 subst e1 e2
 obtain rfl : u = Value.ref a := rx
 obtain ⟨vs, rel, dd⟩ := T.at_ s2.heap I2.kIn
 refine wpAny_in_of (lM ry) T.nm dd.mapOf ?_
 refine ⟨.bl _, H2, I2.tok _, ?_, q9⟩
 show Value.bool _ = Value.bool _
 rw [(rel.val k).isSome_eq]
 cases (valueAt vs k).isSome <;> rfl
theorem vq (T : nv X.prog X.w X.K a kvs) (hi : PE X i ty) (ho : PE X o (tC (.ref a))) : PC X .NotIn i o (Aq kvs true ty) := by
 intro pins s σ H Q I h
 refine thn (hi pins s σ H _ I h) fun iv s1 ⟨y, H1, I1, ry, q1⟩ => ?_
 obtain ⟨k, ek, q9⟩ := kg (kvs := kvs) (Q := fun k => Q (.bl (true != (aZ kvs k).isSome)) H1) q1
 subst ek
 refine thn (ho pins s1 σ H1 (fun v H' => v = .ref a /\ H' = H1) I1 ⟨rfl, rfl⟩) fun u s2 ⟨x, H2, I2, rx, e1, e2⟩ => ?_
 subst e1 e2
 obtain rfl : u = Value.ref a := rx
 obtain ⟨vs, rel, dd⟩ := T.at_ s2.heap I2.kIn
 refine wpAny_notIn_of (lM ry) T.nm dd.mapOf ?_
 refine ⟨.bl _, H2, I2.tok _, ?_, q9⟩
 show Value.bool _ = Value.bool _
 rw [(rel.val k).isSome_eq]
 cases (valueAt vs k).isSome <;> rfl
theorem tD {op : CmpOp} {a b : Expr} {t : TE} (h : PC X op a b t) (h1 : behindInMarks op b = false := by first | exact bq _ (by decide) (by decide) | rfl) : PT X (.Compare a [op] [b] pos) (cT t) := by
 intro pins s σ H Q I hw
 refine wpAny_isTrue_Compare1 (thn (h pins s σ H _ I hw) fun v s1 h1 => thn h1 fun u s2 h2 => thn h2 fun c s3 ⟨x, H1, I1, r1, q1⟩ => ?_) h1
 cases x <;> first | exact q1.elim | skip
 cases r1
 exact wpAny_truthy_bool ⟨H1, I1, q1⟩
def xP (kvs : List (Key × V)) (ty : TE) : TE := fun σ H Q => ty σ H fun y H1 => match y with | .int n => (∃ v, aZ kvs (Sum.inl n) = some v /\ Q v H1) | .str z => (∃ v, aZ kvs (Sum.inr z) = some v /\ Q v H1) | _ => False
theorem p9 (T : nv X.prog X.w X.K a kvs) (ho : PE X o (tC (.ref a))) (hi : PE X i ty) (hs : A6 i := by intro _ _; rfl) : PE X (.Subscript o i pos) (xP kvs ty) := by
 intro pins s σ H Q I h
 refine sZ PySem.F.slot_dict_getitem.lookup hs (thn (ho pins s σ H (fun v H' => v = .ref a /\ H' = H) I ⟨rfl, rfl⟩) fun u s1 ⟨x, H1, I1, rx, e1, e2⟩ => ?_)
 subst e1 e2
 obtain rfl : u = Value.ref a := rx
 refine thn (hi pins s1 σ H1 _ I1 h) fun iv s2 ⟨y, H2, I2, ry, q2⟩ => ?_
 obtain ⟨k, ek, v, hv, q9⟩ := kg (kvs := kvs) (Q := fun k => ∃ v, aZ kvs k = some v /\ Q v H2) q2
 subst ek
 obtain ⟨vs, rel, dd⟩ := T.at_ s2.heap I2.kIn
 obtain ⟨w', hw, rw'⟩ := RelO.some_of (v := v) (o := valueAt vs k) (by rw [<- hv]; exact rel.val k)
 exact ⟨dd.typeIs, wpAny_getItem_of (lM ry) dd.mapOf hw ⟨v, H2, I2.tok _, rw', q9⟩⟩
def vx (kvs : List (Key × V)) (ty td : TE) : TE := fun σ H Q => ty σ H fun y H1 => td σ H1 fun z H2 => match y with | .int n => Q ((aZ kvs (Sum.inl n)).getD z) H2 | .str x => Q ((aZ kvs (Sum.inr x)).getD z) H2 | _ => False
theorem x8 (T : nv X.prog X.w X.K a kvs) (ho : PE X o (tC (.ref a))) (he : PE X i ty) (hf : PE X d td) (m : M2 X o "get" apos i d cpos := by exact ⟨rfl, rfl, rfl, rfl⟩) : PE X (.Call (.Attribute o "get" apos) [i, d] [] cpos) (vx kvs ty td) := by
 intro pins s σ H Q I h
 refine wpAny_Call_method m.base m.few m.line PySem.F.plainAttrs_dict PySem.F.slot_dict_get PySem.F.type_dict_get (thn (ho pins s σ H (fun v H' => v = .ref a /\ H' = H) I ⟨rfl, rfl⟩) fun u s1 ⟨x, H1, I1, rx, e1, e2⟩ => ?_)
 subst e1 e2
 obtain rfl : u = Value.ref a := rx
 obtain ⟨vs1, _, dd1⟩ := T.at_ s1.heap I1.kIn
 refine ⟨dd1.typeIs, fun b e => ?_, ?_⟩
 ·cases e
  obtain ⟨ob, _, _, h1, h2, _⟩ := dd1
  exact ⟨ob, h1, h2.2.1⟩
 rw [m.trees]
 refine Calls.callWith_builtin rfl (Calls.evalArgs_plain (Calls.spliced_cons (thn (he pins s1 σ H1 _ I1 h) fun iv s2 ⟨y, H2, I2, ry, q2⟩ =>
  Calls.spliced_cons (thn (hf pins s2 σ H2 _ I2 q2) fun fv s3 ⟨z, H3, I3, rz, q3⟩ => Calls.spliced_nil ?_))))
 obtain ⟨k, ek, q9⟩ := kg (kvs := kvs) (Q := fun k => Q ((aZ kvs k).getD z) H3) q3
 subst ek
 obtain ⟨vs, rel, dd⟩ := T.at_ s3.heap I3.kIn
 exact call_meetsIn PySem.F.slot_dict_get dd.typeIs PySem.F.entry_dict_get (PySem.F.args_dict_get_3 _ _ _) (meets_dict_get_default (b8 X.prog X.w) a (lM ry) T.nm fv) ⟨_, dd.mapOf, _, H3, I3.tok _, (rel.val k).getD rz, q9⟩
end
structure vU (P : Program) (w : World) (K : Frag) (a : Addr) (kvs : List (List Key × V)) : Prop where
 at_ : ∀ h : Heap, K.In h -> ∃ xs : List (List Key × Addr × Value), h.DictOfH (tupleKind (b8 P w)) a xs /\ ∀ k, RelO (aZ kvs k) ((atKey xs k).map (·.2))
 nm : (a == sysModules) = false
section
variable {X : Cx} {a : Addr} {kvs : List (List Key × V)} {o i : Expr} {pos : Pos} {ty : TE}
def yn (kvs : List (List Key × V)) (ty : TE) : TE := fun σ H Q => ty σ H fun y H1 => match y with | .ref b => (∃ ks, H1 b = some (.tup (ks.map kV)) /\ Q (.bl (aZ kvs ks).isSome) H1) | _ => False
theorem zQ (T : vU X.prog X.w X.K a kvs) (hu : X.A.units + 1 < cLine) (hi : PE X i ty) (ho : PE X o (tC (.ref a))) : PC X .In i o (yn kvs ty) := by
 intro pins s σ H Q I h
 refine thn (hi pins s σ H _ I h) fun iv s1 ⟨y, H1, I1, ry, q1⟩ => ?_
 cases y <;> first | exact q1.elim | skip
 rename_i b
 obtain ⟨ks, hb, q1⟩ := q1
 cases (show iv = Value.ref b from ry)
 refine thn (ho pins s1 σ H1 (fun v H' => v = .ref a /\ H' = H1) I1 ⟨rfl, rfl⟩) fun u s2 ⟨x, H2, I2, rx, e1, e2⟩ => ?_
 subst e1 e2
 obtain rfl : u = Value.ref a := rx
 obtain ⟨xs, dd, rel⟩ := T.at_ s2.heap I2.kIn
 refine wpAny_in_heap (tupleKind_room_in1 hu) (mi I2.hok hb) T.nm dd ?_
 refine ⟨.bl _, H2, I2.tok _, ?_, q1⟩
 show Value.bool _ = Value.bool _
 have q := (rel ks).isSome_eq
 rw [Option.isSome_map] at q
 rw [q]
def uU (kvs : List (List Key × V)) (ty : TE) : TE := fun σ H Q => ty σ H fun y H1 => match y with | .ref b => (∃ ks v, H1 b = some (.tup (ks.map kV)) /\ aZ kvs ks = some v /\ Q v H1) | _ => False
theorem xD (T : vU X.prog X.w X.K a kvs) (hu : X.A.units + 1 < cLine) (ho : PE X o (tC (.ref a))) (hi : PE X i ty) (hs : A6 i := by intro _ _; rfl) : PE X (.Subscript o i pos) (uU kvs ty) := by
 intro pins s σ H Q I h
 refine sZ PySem.F.slot_dict_getitem.lookup hs (thn (ho pins s σ H (fun v H' => v = .ref a /\ H' = H) I ⟨rfl, rfl⟩) fun u s1 ⟨x, H1, I1, rx, e1, e2⟩ => ?_)
 subst e1 e2
 obtain rfl : u = Value.ref a := rx
 refine thn (hi pins s1 σ H1 _ I1 h) fun iv s2 ⟨y, H2, I2, ry, q2⟩ => ?_
 cases y <;> first | exact q2.elim | skip
 rename_i b
 obtain ⟨ks, v, hb, hv, q2⟩ := q2
 cases (show iv = Value.ref b from ry)
 obtain ⟨xs, dd, rel⟩ := T.at_ s2.heap I2.kIn
 obtain ⟨w', hw, rw'⟩ := RelO.some_of (v := v) (o := (atKey xs ks).map (·.2)) (by rw [<- hv]; exact rel ks)
 obtain ⟨p, hp, hp2⟩ := Option.map_eq_some_iff.mp hw
 refine ⟨dd.typeIs, wpAny_getItem_heap (tupleKind_room_in1 hu) (mi I2.hok hb) dd hp ?_⟩
 rw [hp2]
 exact ⟨v, H2, I2.tok _, rw', q2⟩
end
def TupK (K : Frag) (a : Addr) (xs : List V) : Prop := ∃ (o : Obj) (its : Array Value) (n : Nat), K.lookup a = some o /\ o.cls = .type "tuple" /\ o.data = .seq its n /\ its.size <= sizeLine /\ Vals xs its.toList
theorem TupK.sq {K : Frag} {a : Addr} {xs : List V} (t : TupK K a xs) (H : Hp) : SqT K H a xs := .inr t
def oIn (K : Frag) (neg : Bool) : R2 := fun x y H Q => match y with | .ref p => ∃ xs, SqT K H p xs /\ gy x = true /\ xs.all gy = true /\ Q (.bl (neg != inV x xs)) H | _ => False
theorem yA {X : Cx} : OpR X (compareOp .In) (oIn X.K false) := ul.imp fun x y H Q h => by
 unfold oIn at h
 split at h
 ·obtain ⟨xs, h1, h2, h3, h4⟩ := h
  refine ⟨_, xs, rfl, .inr h1, h2, h3, ?_⟩
  rw [if_neg (by decide)]
  cases e : inV x xs <;> rw [e] at h4 <;> exact h4
 ·exact h.elim
end L2
namespace L2
open PySem PySem.Spec PyProof.Rows
def top (i : Nat) : Stmt := PySem.Challenge.pw_buildtext_s04_same.main.body.getD i (.Pass ⟨0, 0, 0, 0⟩)
structure Ad where
 tok : Addr
 rdr : Addr
 tree : Addr
 R : Addr
 t_BLANKS : Addr
 t_KEPT_WORDS : Addr
 t_LONG_SIGNS : Addr
 t_ATOM_LEAVES : Addr
 t_COMPARISONS : Addr
 t_ESCAPES : Addr
 t_SHORT_SIGNS : Addr
 t_SIGN_NODES : Addr
def kX : List V := [.int 32, .int 9, .int 10, .int 13]
def eF : List V := [.str "load", .str "def", .str "if", .str "else", .str "for", .str "in", .str "return", .str "or", .str "and", .str "not", .str "true", .str "false", .str "none"]
def iY : List (Key × V) := [(Sum.inl 34, .int 34), (Sum.inl 92, .int 92), (Sum.inl 110, .int 10), (Sum.inl 116, .int 9)]
def cQ : List (List Key × V) := [([Sum.inl 61, Sum.inl 61], .str "=="), ([Sum.inl 33, Sum.inl 61], .str "!="), ([Sum.inl 60, Sum.inl 61], .str "<=")]
def dq : List (Key × V) := [(Sum.inl 61, .str "="), (Sum.inl 60, .str "<"), (Sum.inl 43, .str "+"), (Sum.inl 45, .str "-"), (Sum.inl 42, .str "*"), (Sum.inl 47, .str "/"), (Sum.inl 37, .str "percent"), (Sum.inl 40, .str "("), (Sum.inl 41, .str ")"), (Sum.inl 91, .str "["), (Sum.inl 93, .str "]"), (Sum.inl 123, .str "{"), (Sum.inl 125, .str "}"), (Sum.inl 44, .str ","), (Sum.inl 59, .str ";"), (Sum.inl 58, .str ":"), (Sum.inl 46, .str ".")]
def be : List (Key × V) := [(Sum.inr "number", .int 1), (Sum.inr "text", .int 2), (Sum.inr "name", .int 3), (Sum.inr "true", .int 4), (Sum.inr "false", .int 5), (Sum.inr "none", .int 6)]
def bX : List (Key × V) := [(Sum.inr "==", .int 33), (Sum.inr "!=", .int 34), (Sum.inr "<", .int 35), (Sum.inr "<=", .int 36), (Sum.inr "in", .int 37)]
def cU : List (Key × V) := [(Sum.inr "+", .int 60), (Sum.inr "-", .int 61), (Sum.inr "*", .int 62), (Sum.inr "/", .int 63), (Sum.inr "percent", .int 64)]
structure Txt (P : Program) (w : World) (K : Frag) (mg : Str -> Option Value) (A : Ad) : Prop where
 cl_tok : Cls K A.tok
 na_tok_kind : NoAttr K A.tok "kind"
 na_tok_place : NoAttr K A.tok "place"
 na_tok_after : NoAttr K A.tok "after"
 na_tok_data : NoAttr K A.tok "data"
 cl_rdr : Cls K A.rdr
 na_rdr_tokens : NoAttr K A.rdr "tokens"
 na_rdr_at : NoAttr K A.rdr "at"
 na_rdr_depth : NoAttr K A.rdr "depth"
 cl_tree : Cls K A.tree
 na_tree_kind : NoAttr K A.tree "kind"
 na_tree_place : NoAttr K A.tree "place"
 na_tree_data : NoAttr K A.tree "data"
 na_tree_parts : NoAttr K A.tree "parts"
 g_QUOTED : GC mg "QUOTED" (.int 2)
 g_NAME : GC mg "NAME" (.int 3)
 g_LABEL : GC mg "LABEL" (.int 7)
 g_FILE : GC mg "FILE" (.int 10)
 g_LOAD : GC mg "LOAD" (.int 11)
 g_DEF : GC mg "DEF" (.int 12)
 g_PARAMS : GC mg "PARAMS" (.int 13)
 g_PARAM : GC mg "PARAM" (.int 14)
 g_BLOCK : GC mg "BLOCK" (.int 15)
 g_IF : GC mg "IF" (.int 16)
 g_FOR : GC mg "FOR" (.int 17)
 g_RETURN : GC mg "RETURN" (.int 18)
 g_GIVING : GC mg "GIVING" (.int 19)
 g_BARE : GC mg "BARE" (.int 20)
 g_OR : GC mg "OR" (.int 30)
 g_AND : GC mg "AND" (.int 31)
 g_NOT : GC mg "NOT" (.int 32)
 g_SUM : GC mg "SUM" (.int 38)
 g_PROD : GC mg "PROD" (.int 40)
 g_MINUS : GC mg "MINUS" (.int 43)
 g_POST : GC mg "POST" (.int 44)
 g_NAMED_ARG : GC mg "NAMED_ARG" (.int 45)
 g_LIST : GC mg "LIST" (.int 48)
 g_LIST_FOR : GC mg "LIST_FOR" (.int 49)
 g_RECORD : GC mg "RECORD" (.int 50)
 g_ENTRY : GC mg "ENTRY" (.int 51)
 g_CALL : GC mg "CALL" (.int 65)
 g_INDEX : GC mg "INDEX" (.int 66)
 g_DOT : GC mg "DOT" (.int 67)
 g_QUOTE : GC mg "QUOTE" (.int 34)
 g_BACKSLASH : GC mg "BACKSLASH" (.int 92)
 g_LETTER_X : GC mg "LETTER_X" (.int 120)
 g_MOST_IN_WORD : GC mg "MOST_IN_WORD" (.int 32)
 g_MOST_DIGITS : GC mg "MOST_DIGITS" (.int 19)
 g_MOST_WORTH : GC mg "MOST_WORTH" (.int 1000000000000000000)
 g_MOST_TOLD : GC mg "MOST_TOLD" (.int 1024)
 g_LINE_FEED : GC mg "LINE_FEED" (.int 10)
 g_HASH : GC mg "HASH" (.int 35)
 g_ZERO : GC mg "ZERO" (.int 48)
 g_NO_BYTE : GC mg "NO_BYTE" (.int 256)
 g_BLANKS : GC mg "BLANKS" (.ref A.t_BLANKS)
 t_BLANKS : TupK K A.t_BLANKS kX
 g_KEPT_WORDS : GC mg "KEPT_WORDS" (.ref A.t_KEPT_WORDS)
 t_KEPT_WORDS : TupK K A.t_KEPT_WORDS eF
 g_ESCAPES : GC mg "ESCAPES" (.ref A.t_ESCAPES)
 t_ESCAPES : nv P w K A.t_ESCAPES iY
 g_LONG_SIGNS : GC mg "LONG_SIGNS" (.ref A.t_LONG_SIGNS)
 t_LONG_SIGNS : vU P w K A.t_LONG_SIGNS cQ
 g_SHORT_SIGNS : GC mg "SHORT_SIGNS" (.ref A.t_SHORT_SIGNS)
 t_SHORT_SIGNS : nv P w K A.t_SHORT_SIGNS dq
 g_PLACE : GC mg "PLACE" (.int 5)
 g_TWICE : GC mg "TWICE" (.int 6)
 g_BEHIND : GC mg "BEHIND" (.int 7)
 g_MOST_BRACKETS : GC mg "MOST_BRACKETS" (.int 12)
 g_ATOM_LEAVES : GC mg "ATOM_LEAVES" (.ref A.t_ATOM_LEAVES)
 t_ATOM_LEAVES : nv P w K A.t_ATOM_LEAVES be
 g_COMPARISONS : GC mg "COMPARISONS" (.ref A.t_COMPARISONS)
 t_COMPARISONS : nv P w K A.t_COMPARISONS bX
 g_SIGN_NODES : GC mg "SIGN_NODES" (.ref A.t_SIGN_NODES)
 t_SIGN_NODES : nv P w K A.t_SIGN_NODES cU
 g_MOST_BYTES : GC mg "MOST_BYTES" (.int 4096)
 g_LESS_FOR_SECOND : GC mg "LESS_FOR_SECOND" (.int 20)
 b_len : mg "len" = none
 b_tuple : mg "tuple" = none
 b_ord : mg "ord" = none
 b_min : mg "min" = none
 b_zip : mg "zip" = none
 tr : A.tok ≠ A.rdr
 tt : A.tok ≠ A.tree
 rt : A.rdr ≠ A.tree
 gR : mg "Refusal" = some (.ref A.R)
 xR : rj K A.R = true
theorem PE.up {X : Cx} {e : Expr} {t : TE} (h : PE X e t) : PE X e (fun σ H Q => ∃ Q0 : VK, t σ H Q0 /\ ∀ v H1, Q0 v H1 -> Q v H1) := fun pins s σ H Q I ⟨Q0, h0, k⟩ => thn (h pins s σ H Q0 I h0) fun u s1 ⟨v, H1, I1, r, q⟩ => ⟨v, H1, I1, r, k _ _ q⟩
def sX (K : Frag) (R : Addr) (H : Hp) (a : Addr) (n p : Int) : Prop := ∃ C dx fs, H a = some (.ext (isX a C dx)) /\ H dx = some (.ext (isXD dx fs)) /\ fs.lookup ("number" : Str) = some (.int n) /\ fs.lookup ("position" : Str) = some (.int p) /\
 ur K C /\ NoAttr K C "number" /\ NoAttr K C "position" /\ mroIn K C (.ref R) = some true
def Fl (K : Frag) (R : Addr) (E : XK) (n p : Int) : Prop := ∀ a H, sX K R H a n p -> E (.ref a) none H
def xfs (n p : Int) : List (Str × V) := [("number", .int n), ("position", .int p)]
structure XK2 (K : Frag) (C : Addr) : Prop where
 x : ur K C
 n : NoAttr K C "number"
 p : NoAttr K C "position"
def nU (K : Frag) : Sp := fun vs H Q _ => match vs with
 | [.ref e, .int n, .int p] => ∃ C, H e = some (.ext (isXN e C none)) /\ XK2 K C /\ ∀ dx, H dx = none -> dx ≠ e -> Q .non (upd (upd H e (.ext (isXN e C (some dx)))) dx (.ext (isXD dx (xfs n p))))
 | _ => False
def fK (K : Frag) (C : Addr) (n : Int) : Sp := fun vs H Q _ => match vs with
 | [.ref e, .int p] => H e = some (.ext (isXN e C none)) /\ ∀ dx, H dx = none -> dx ≠ e -> Q .non (upd (upd H e (.ext (isXN e C (some dx)))) dx (.ext (isXD dx (xfs n p))))
 | _ => False
def tQ (K : Frag) (C : Addr) (n p : Int) : Sp := fun vs H Q _ => match vs with
 | [.ref e] => H e = some (.ext (isXN e C none)) /\ ∀ dx, H dx = none -> dx ≠ e -> Q .non (upd (upd H e (.ext (isXN e C (some dx)))) dx (.ext (isXD dx (xfs n p))))
 | _ => False
structure Rz (P : Program) (w : World) (K : Frag) (mg : Str -> Option Value) (base : Heap) (x : Str) (R : Addr) (k : Nat) (n : Int) : Prop where
 ex : ∃ C f fd j, j + 1 <= k /\ mg x = some (.ref C) /\ XMk K C f /\ XK2 K C /\ mroIn K C (.ref R) = some true /\ FnOk P w K mg base (CXR P w) j f fd ["self", "position"] (fK K C n) /\ Binds K fd ["self", "position"] []
structure Rz0 (P : Program) (w : World) (K : Frag) (mg : Str -> Option Value) (base : Heap) (x : Str) (R : Addr) (k : Nat) (n p : Int) : Prop where
 ex : ∃ C f fd j, j + 1 <= k /\ mg x = some (.ref C) /\ XMk K C f /\ XK2 K C /\ mroIn K C (.ref R) = some true /\ FnOk P w K mg base (CXR P w) j f fd ["self"] (tQ K C n p) /\ Binds K fd ["self"] []
theorem Rz.mono {P : Program} {w : World} {K : Frag} {mg : Str -> Option Value} {base : Heap} {x : Str} {R : Addr} {j k : Nat} {n : Int} (F : Rz P w K mg base x R j n) (h : j <= k) : Rz P w K mg base x R k n :=
 let ⟨C, f, fd, i, h0, r⟩ := F.ex; ⟨C, f, fd, i, Nat.le_trans h0 h, r⟩
theorem lU {K : Frag} {R C e dx : Addr} {H : Hp} {n p : Int} (x : XK2 K C) (m : mroIn K C (.ref R) = some true) (hne : dx ≠ e) :
  sX K R (upd (upd (upd H e (.ext (isXN e C (some dx)))) dx (.ext (isXD dx (xfs n p)))) e (.ext (isX e C dx))) e n p :=
 ⟨C, dx, xfs n p, af, by rw [al hne, af], rfl, rfl, x.x, x.n, x.p, m⟩
def tRz (K : Frag) (R : Addr) (n : Int) (E : XK) (te : TE) : TS := fun _ σ H => te σ H fun v _ => match v with | .int p => Fl K R E n p | _ => False
theorem mG {X : Cx} {x : Str} {R : Addr} {k : Nat} {n : Int} {E : XK} {e : Expr} {te : TE} {np cpos pos : Pos} (c : Rz X.prog X.w X.K X.mg X.base x R k n) (hr : Room k X.A) (T : Throws X E) (he : PE X e te) (hg : Gl X x := by rfl) (hdb : (x == ("__debug__" : Str)) = false := by decide)
  (hst : starEach [e] X.env = (false, eval e X.env) :: starEach [] X.env := by rfl) : PS X (.Raise (some (.Call (.Name x np) [e] [] cpos)) none pos) (tRz X.K R n E te) := by
 obtain ⟨C, f, fd, j, hj, h1, h2, h3, h4, h5, h6⟩ := c.ex
 refine PS.imp (uL h2 h5 (hr.mono hj) hg h1 h6 T (a8 he.up aa hst) (by simp) hdb hst rfl) fun D σ H q => ?_
 exact ⟨_, q, fun v H1 z e' he' => by
  cases v <;> first | exact z.elim | skip
  rename_i p
  refine ⟨af, fun dx hd hne => ⟨rfl, dx, ?_, z e' _ (lU h3 h4 hne)⟩⟩
  rw [al hne.symm, af]⟩
theorem Cu {X : Cx} {x : Str} {R : Addr} {k : Nat} {n p : Int} {E : XK} {np cpos pos : Pos} (c : Rz0 X.prog X.w X.K X.mg X.base x R k n p) (hr : Room k X.A) (T : Throws X E) (hg : Gl X x := by rfl) (hdb : (x == ("__debug__" : Str)) = false := by decide) :
  PS X (.Raise (some (.Call (.Name x np) [] [] cpos)) none pos) (fun _ _ _ => Fl X.K R E n p) := by
 obtain ⟨C, f, fd, j, hj, h1, h2, h3, h4, h5, h6⟩ := c.ex
 refine PS.imp (tY h2 h5 (hr.mono hj) hg h1 h6 T hdb) fun D σ H z e' he' => ?_
 refine ⟨af, fun dx hd hne => ⟨rfl, dx, ?_, z e' _ (lU h3 h4 hne)⟩⟩
 rw [al hne.symm, af]
structure Mkf (P : Program) (w : World) (K : Frag) (mg : Str -> Option Value) (base : Heap) (x : Str) (C : Addr) (k n : Nat) (g : List V -> List (Str × V)) : Prop where
 ex : ∃ j ps, j + 1 <= k /\ Mkr P w K mg base x C j n ps g
theorem Mkf.mono {P : Program} {w : World} {K : Frag} {mg : Str -> Option Value} {base : Heap} {x : Str} {C : Addr} {j k n : Nat} {g : List V -> List (Str × V)} (F : Mkf P w K mg base x C j n g) (h : j <= k) : Mkf P w K mg base x C k n g :=
 let ⟨i, ps, h0, r⟩ := F.ex; ⟨i, ps, Nat.le_trans h0 h, r⟩
theorem iC {X : Cx} {k n : Nat} {C : Addr} {E : XK} {x : Str} {p pos : Pos} {e : Expr} {es : List Expr} {t : TA} {g : List V -> List (Str × V)} (c : Mkf X.prog X.w X.K X.mg X.base x C k n g) (hr : Room k X.A) (hx : d8 (CXR X.prog X.w) X E) (ha : PA X (e :: es) t) (hg : Gl X x := by rfl) (hdb : (x == ("__debug__" : Str)) = false := by decide)
  (he : starEach (e :: es) X.env = (false, eval e X.env) :: starEach es X.env := by rfl) (hpl : (backTo pos (starEach es X.env)).any (·.1) = false := by rfl) : PE X (.Call (.Name x p) (e :: es) [] pos) (cMk C n g t) := by
 obtain ⟨j, ps, hj, c⟩ := c.ex
 exact Db c (hr.mono hj) hx ha hg hdb he hpl
section
variable {P : Program} {w : World} {K : Frag} {mg : Str -> Option Value} {base : Heap}
abbrev ck : Stmt := aG (top 45) 0
theorem iz : ai ["self", "number", "position"] ["self", "number", "position"] (ad ck) := by walk_at "sc"
theorem sy {f : Addr} {fd : FuncData} (F : Fun K "__init__" "Refusal.__init__" ck f fd) : FnOk P w K mg base (CXR P w) 1 f fd ["self", "number", "position"] (nU K) := by
 refine F.okX iz (fun vs H Q E h => ?_) (fun cdv A outer s H vs Q E hr h => ⟨_, a9 (vL (q_v 0) (q_v 1) rfl) (ac (uZ (q_v 0) (q_v 2) rfl)), ?_⟩)
 ·unfold nU at h; split at h <;> first | rfl | exact h.elim
 ·unfold nU at h
  split at h <;> first | exact h.elim | skip
  obtain ⟨C, he, x, q⟩ := h
  refine ⟨_, C, rfl, he, x.x, x.n, fun dx hd hne => ⟨_, C, dx, _, rfl, ?_, af, hne, (by simp), x.x, x.p, ?_⟩⟩
  ·rw [al hne.symm, af]
  ·rw [dX]; exact q dx hd hne
abbrev bK : Stmt := aG (top 47) 0
theorem ft : ai ["self", "position"] ["self", "position"] (ad bK) := by walk_at "sc"
theorem nN {f fR C R : Addr} {fd fdR : FuncData} (F : Fun K "__init__" "TokenFault.__init__" bK f fd) (hR : mg "Refusal" = some (.ref R)) (c : jZ K R "__init__" fR) (FR : FnOk P w K mg base (CXR P w) 1 fR fdR ["self", "number", "position"] (nU K)) (bR : Binds K fdR ["self", "number", "position"] []) (x : XK2 K C) :
  FnOk P w K mg base (CXR P w) 2 f fd ["self", "position"] (fK K C 2) := by
 refine F.okX ft (fun vs H Q E h => ?_) (fun cdv A outer s H vs Q E hr h => ⟨_, ac (aA (dA rfl hR c FR hr bR ae (a8 (q_v 0) (a8 ap (a8 (q_v 1) aa))))), ?_⟩)
 ·unfold fK at h; split at h <;> first | rfl | exact h.elim
 ·unfold fK at h
  split at h <;> first | exact h.elim | skip
  exact ⟨C, h.1, x, h.2⟩
abbrev bB : Stmt := aG (top 48) 0
theorem eZ : ai ["self", "position"] ["self", "position"] (ad bB) := by walk_at "sc"
theorem lO {f fR C R : Addr} {fd fdR : FuncData} (F : Fun K "__init__" "SyntaxFault.__init__" bB f fd) (hR : mg "Refusal" = some (.ref R)) (c : jZ K R "__init__" fR) (FR : FnOk P w K mg base (CXR P w) 1 fR fdR ["self", "number", "position"] (nU K)) (bR : Binds K fdR ["self", "number", "position"] []) (x : XK2 K C) :
  FnOk P w K mg base (CXR P w) 2 f fd ["self", "position"] (fK K C 3) := by
 refine F.okX eZ (fun vs H Q E h => ?_) (fun cdv A outer s H vs Q E hr h => ⟨_, ac (aA (dA rfl hR c FR hr bR ae (a8 (q_v 0) (a8 ap (a8 (q_v 1) aa))))), ?_⟩)
 ·unfold fK at h; split at h <;> first | rfl | exact h.elim
 ·unfold fK at h
  split at h <;> first | exact h.elim | skip
  exact ⟨C, h.1, x, h.2⟩
abbrev bV : Stmt := aG (top 49) 0
theorem gh : ai ["self", "position"] ["self", "position"] (ad bV) := by walk_at "sc"
theorem pM {f fR C R : Addr} {fd fdR : FuncData} (F : Fun K "__init__" "DeepFault.__init__" bV f fd) (hR : mg "Refusal" = some (.ref R)) (c : jZ K R "__init__" fR) (FR : FnOk P w K mg base (CXR P w) 1 fR fdR ["self", "number", "position"] (nU K)) (bR : Binds K fdR ["self", "number", "position"] []) (x : XK2 K C) :
  FnOk P w K mg base (CXR P w) 2 f fd ["self", "position"] (fK K C 4) := by
 refine F.okX gh (fun vs H Q E h => ?_) (fun cdv A outer s H vs Q E hr h => ⟨_, ac (aA (dA rfl hR c FR hr bR ae (a8 (q_v 0) (a8 ap (a8 (q_v 1) aa))))), ?_⟩)
 ·unfold fK at h; split at h <;> first | rfl | exact h.elim
 ·unfold fK at h
  split at h <;> first | exact h.elim | skip
  exact ⟨C, h.1, x, h.2⟩
abbrev bL : Stmt := aG (top 50) 0
theorem fB : ai ["self", "position"] ["self", "position"] (ad bL) := by walk_at "sc"
theorem nG {f fR C R : Addr} {fd fdR : FuncData} (F : Fun K "__init__" "PlaceFault.__init__" bL f fd) (hR : mg "Refusal" = some (.ref R)) (c : jZ K R "__init__" fR) (FR : FnOk P w K mg base (CXR P w) 1 fR fdR ["self", "number", "position"] (nU K)) (bR : Binds K fdR ["self", "number", "position"] []) (x : XK2 K C) :
  FnOk P w K mg base (CXR P w) 2 f fd ["self", "position"] (fK K C 5) := by
 refine F.okX fB (fun vs H Q E h => ?_) (fun cdv A outer s H vs Q E hr h => ⟨_, ac (aA (dA rfl hR c FR hr bR ae (a8 (q_v 0) (a8 ap (a8 (q_v 1) aa))))), ?_⟩)
 ·unfold fK at h; split at h <;> first | rfl | exact h.elim
 ·unfold fK at h
  split at h <;> first | exact h.elim | skip
  exact ⟨C, h.1, x, h.2⟩
abbrev bO : Stmt := aG (top 51) 0
theorem fO : ai ["self", "position"] ["self", "position"] (ad bO) := by walk_at "sc"
theorem nJ {f fR C R : Addr} {fd fdR : FuncData} (F : Fun K "__init__" "TwiceFault.__init__" bO f fd) (hR : mg "Refusal" = some (.ref R)) (c : jZ K R "__init__" fR) (FR : FnOk P w K mg base (CXR P w) 1 fR fdR ["self", "number", "position"] (nU K)) (bR : Binds K fdR ["self", "number", "position"] []) (x : XK2 K C) :
  FnOk P w K mg base (CXR P w) 2 f fd ["self", "position"] (fK K C 6) := by
 refine F.okX fO (fun vs H Q E h => ?_) (fun cdv A outer s H vs Q E hr h => ⟨_, ac (aA (dA rfl hR c FR hr bR ae (a8 (q_v 0) (a8 ap (a8 (q_v 1) aa))))), ?_⟩)
 ·unfold fK at h; split at h <;> first | rfl | exact h.elim
 ·unfold fK at h
  split at h <;> first | exact h.elim | skip
  exact ⟨C, h.1, x, h.2⟩
abbrev bA : Stmt := aG (top 52) 0
theorem f7 : ai ["self", "position"] ["self", "position"] (ad bA) := by walk_at "sc"
theorem my {f fR C R : Addr} {fd fdR : FuncData} (F : Fun K "__init__" "BehindFault.__init__" bA f fd) (hR : mg "Refusal" = some (.ref R)) (c : jZ K R "__init__" fR) (FR : FnOk P w K mg base (CXR P w) 1 fR fdR ["self", "number", "position"] (nU K)) (bR : Binds K fdR ["self", "number", "position"] []) (x : XK2 K C) :
  FnOk P w K mg base (CXR P w) 2 f fd ["self", "position"] (fK K C 7) := by
 refine F.okX f7 (fun vs H Q E h => ?_) (fun cdv A outer s H vs Q E hr h => ⟨_, ac (aA (dA rfl hR c FR hr bR ae (a8 (q_v 0) (a8 ap (a8 (q_v 1) aa))))), ?_⟩)
 ·unfold fK at h; split at h <;> first | rfl | exact h.elim
 ·unfold fK at h
  split at h <;> first | exact h.elim | skip
  exact ⟨C, h.1, x, h.2⟩
abbrev bW : Stmt := aG (top 46) 0
theorem gm : ai ["self"] ["self"] (ad bW) := by walk_at "sc"
theorem pb {f fR C R : Addr} {fd fdR : FuncData} (F : Fun K "__init__" "LongFault.__init__" bW f fd) (hR : mg "Refusal" = some (.ref R)) (c : jZ K R "__init__" fR) (FR : FnOk P w K mg base (CXR P w) 1 fR fdR ["self", "number", "position"] (nU K)) (bR : Binds K fdR ["self", "number", "position"] []) (x : XK2 K C) :
  FnOk P w K mg base (CXR P w) 2 f fd ["self"] (tQ K C 1 0) := by
 refine F.okX gm (fun vs H Q E h => ?_) (fun cdv A outer s H vs Q E hr h => ⟨_, ac (aA (dA rfl hR c FR hr bR ae (a8 (q_v 0) (a8 ap (a8 ap aa))))), ?_⟩)
 ·unfold tQ at h; split at h <;> first | rfl | exact h.elim
 ·unfold tQ at h
  split at h <;> first | exact h.elim | skip
  exact ⟨C, h.1, x, h.2⟩
end
end L2
namespace Vp
open Vablda
theorem xL {α : Type} (p : α -> Bool) : ∀ (l : List α) (j : Nat), j <= (l.takeWhile p).length -> ((∃ c, l[j]? = some c /\ p c = true) ↔ j < (l.takeWhile p).length)
 | [], j, _ => by simp
 | a :: l, j, h2 => by
   by_cases pa : p a = true
   ·rw [List.takeWhile_cons_of_pos pa] at h2 ⊢
    cases j with
    | zero => simp [pa]
    | succ j =>
      simp only [List.length_cons, List.getElem?_cons_succ] at h2 ⊢
      rw [xL p l j (by omega)]
      omega
   ·rw [List.takeWhile_cons_of_neg pa] at h2 ⊢
    simp only [List.length_nil] at h2 ⊢
    obtain rfl : j = 0 := by omega
    simp [pa]
theorem scan {α : Type} (p : α -> Bool) (T : List α) (n m : Nat) (h1 : n <= m) (h2 : m <= n + ((T.drop n).takeWhile p).length) : (∃ c, T[m]? = some c /\ p c = true) ↔ m < n + ((T.drop n).takeWhile p).length := by
 obtain ⟨j, rfl⟩ : ∃ j, m = n + j := ⟨m - n, by omega⟩
 have e : T[n + j]? = (T.drop n)[j]? := by rw [List.getElem?_drop]
 rw [e, xL p (T.drop n) j (by omega)]
 omega
theorem take_takeWhile {α : Type} (p : α -> Bool) : ∀ l : List α, l.take (l.takeWhile p).length = l.takeWhile p
 | [] => rfl
 | a :: l => by
   by_cases pa : p a = true
   ·rw [List.takeWhile_cons_of_pos pa, List.length_cons, List.take_succ_cons, take_takeWhile p l]
   ·rw [List.takeWhile_cons_of_neg pa]; rfl
theorem drop_takeWhile {α : Type} (p : α -> Bool) : ∀ l : List α, l.drop (l.takeWhile p).length = l.dropWhile p
 | [] => rfl
 | a :: l => by
   by_cases pa : p a = true
   ·rw [List.takeWhile_cons_of_pos pa, List.length_cons, List.drop_succ_cons, drop_takeWhile p l, List.dropWhile_cons_of_pos pa]
   ·rw [List.takeWhile_cons_of_neg pa, List.dropWhile_cons_of_neg pa]; rfl
def toldB : Text -> Nat
 | [] => 256
 | 92 :: 34 :: _ => 34
 | 92 :: 92 :: _ => 92
 | 92 :: 110 :: _ => 10
 | 92 :: 116 :: _ => 9
 | 92 :: 120 :: a :: b :: _ => if hex a = true /\ hex b = true then 16 * hexValue a + hexValue b else 256
 | c :: _ => if 32 <= c /\ c <= 126 /\ c ≠ 92 then c else 256
def toldW (r : Text) : Nat := match r with
 | 92 :: 120 :: _ => 4
 | 92 :: _ => 2
 | _ => 1
theorem hexValue_lt {c : Nat} (h : hex c = true) : hexValue c < 16 := by
 simp only [hex, hexValue, digit, Bool.or_eq_true, Bool.and_eq_true, decide_eq_true_eq] at *
 split <;> omega
theorem told_ok : ∀ {r : Text}, r.head? ≠ some 34 -> toldB r ≠ 256 -> quoted r = (quoted (r.drop (toldW r))).map (fun x => (toldB r :: x.1, x.2)) /\ toldW r <= r.length /\ 0 < toldW r := by
 intro r h1 h2
 unfold toldB at h2 ⊢
 split at h2
 ·exact absurd rfl h2
 ·refine ⟨?_, by simp [toldW], by simp [toldW]⟩; rw [quoted]; rfl
 ·refine ⟨?_, by simp [toldW], by simp [toldW]⟩; rw [quoted]; rfl
 ·refine ⟨?_, by simp [toldW], by simp [toldW]⟩; rw [quoted]; rfl
 ·refine ⟨?_, by simp [toldW], by simp [toldW]⟩; rw [quoted]; rfl
 ·rename_i a b r
  by_cases q : hex a = true /\ hex b = true
  ·rw [if_pos q]
   refine ⟨?_, by simp [toldW], by simp [toldW]⟩
   rw [quoted, if_pos q]; rfl
  ·rw [if_neg q] at h2; exact absurd rfl h2
 ·rename_i c r n1 n2 n3 n4 n5
  by_cases q : 32 <= c /\ c <= 126 /\ c ≠ 92
  ·rw [if_pos q]
   have w : toldW (c :: r) = 1 := by
    unfold toldW
    split <;> rename_i e <;> first | rfl | (exfalso; cases e; exact q.2.2 rfl)
   rw [w]
   refine ⟨?_, by simp, by simp⟩
   show quoted (c :: r) = _
   have hc : c ≠ 34 := fun e => h1 (by rw [e]; rfl)
   conv => lhs; unfold quoted
   split <;> first | (exfalso; rename_i e; cases e <;> first | exact hc rfl | exact q.2.2 rfl) | skip
   rename_i e
   first | (cases e; rw [if_pos q]; rfl) | (rw [if_pos q]; rfl)
  ·rw [if_neg q] at h2; exact absurd rfl h2
theorem told_no : ∀ {r : Text}, r.head? ≠ some 34 -> toldB r = 256 -> quoted r = none := by
 intro r h1 h2
 unfold toldB at h2
 split at h2 <;> try (exfalso; exact absurd h2 (by decide))
 ·rfl
 ·rename_i a b r
  by_cases q : hex a = true /\ hex b = true
  ·rw [if_pos q] at h2
   have := hexValue_lt q.1
   have := hexValue_lt q.2
   omega
  ·rw [quoted, if_neg q]
 ·rename_i c r n1 n2 n3 n4 n5
  by_cases q : 32 <= c /\ c <= 126 /\ c ≠ 92
  ·rw [if_pos q] at h2; omega
  ·have hc : c ≠ 34 := fun e => h1 (by rw [e]; rfl)
   unfold quoted
   split <;> rename_i e <;> first | (exfalso; cases e; first | exact hc rfl | exact n1 _ rfl rfl | exact n2 _ rfl rfl | exact n3 _ rfl rfl | exact n4 _ rfl rfl | exact n5 _ _ _ rfl rfl) | skip
   ·exfalso; cases e
   ·cases e; rw [if_neg q]
theorem quoted_end (r : Text) : quoted (34 :: r) = some ([], r) := by unfold quoted; rfl
theorem lj : ∀ (n : Nat) (r : Text), r.length <= n -> ∀ x, quoted r = some x -> ∃ j, x.2 = r.drop j /\ j <= r.length := by
 intro n
 induction n with
 | zero =>
   intro r h x e
   obtain rfl : r = [] := List.length_eq_zero_iff.mp (by omega)
   cases e
 | succ n ih =>
   intro r h x e
   by_cases h1 : r.head? = some 34
   ·obtain ⟨r', rfl⟩ : ∃ r', r = 34 :: r' := by cases r <;> simp at h1; exact ⟨_, by rw [h1]⟩
    rw [quoted_end] at e
    cases e
    exact ⟨1, rfl, by simp⟩
   ·by_cases h2 : toldB r = 256
    ·rw [told_no h1 h2] at e; cases e
    ·obtain ⟨a, b, c⟩ := told_ok h1 h2
     rw [a] at e
     cases q : quoted (r.drop (toldW r)) with
     | none => rw [q] at e; cases e
     | some y =>
       rw [q] at e
       cases e
       obtain ⟨j, e1, e2⟩ := ih (r.drop (toldW r)) (by rw [List.length_drop]; omega) y q
       rw [List.length_drop] at e2
       exact ⟨toldW r + j, by rw [e1, List.drop_drop], by omega⟩
def stepT (T : Text) (i : Nat) : Except Fault (Tok × Nat) := match T.drop i with
 | [] => .error ⟨TOKEN, i⟩
 | c :: r =>
   if letter c = true then (if 32 < ((c :: r).takeWhile inner).length then .error ⟨TOKEN, i⟩ else .ok (⟨if isKept ((c :: r).takeWhile inner) = true then 2 else 1, (c :: r).takeWhile inner, i⟩, i + ((c :: r).takeWhile inner).length))
   else if digit c = true then (if goodNumber ((c :: r).takeWhile digit) = true then .ok (⟨3, (c :: r).takeWhile digit, i⟩, i + ((c :: r).takeWhile digit).length) else .error ⟨TOKEN, i⟩)
   else if c = 34 then (match quoted r with
    | some x => if 1024 < x.1.length then .error ⟨TOKEN, i⟩ else .ok (⟨4, x.1, i⟩, T.length - x.2.length)
    | none => .error ⟨TOKEN, i⟩)
   else if isIn signs2 ((c :: r).take 2) = true then .ok (⟨5, (c :: r).take 2, i⟩, i + 2)
   else if isIn signs1 [c] = true then .ok (⟨5, [c], i⟩, i + 1)
   else .error ⟨TOKEN, i⟩
theorem cut_step {T : Text} {i n : Nat} {c : Nat} {r : Text} (h : T.drop i = c :: r) (hb : blank c = false) (h35 : c ≠ 35) :
  cutIn T.length (n + 1) (c :: r) = (match stepT T i with | .ok (t, m) => (cutIn T.length n (T.drop m)).map (t :: ·) | .error e => .error e) := by
 have hl : T.length - i = r.length + 1 := by rw [<- List.length_drop, h, List.length_cons]
 have hi : T.length - (r.length + 1) = i := by omega
 rw [cutIn]
 unfold stepT
 rw [h]
 dsimp only
 rw [hi, hb, if_neg (by decide), if_neg h35]
 by_cases h1 : letter c = true
 ·rw [if_pos h1, if_pos h1]
  have hin : inner c = true := by unfold inner; rw [h1]; rfl
  rw [List.takeWhile_cons_of_pos hin]
  by_cases h2 : 32 < (c :: r.takeWhile inner).length
  ·rw [if_pos h2, if_pos h2]
  ·rw [if_neg h2, if_neg h2]
   have e : T.drop (i + (c :: r.takeWhile inner).length) = r.dropWhile inner := by
    rw [<- List.drop_drop, h, List.length_cons, List.drop_succ_cons, drop_takeWhile]
   dsimp only
   rw [e]
   rfl
 rw [if_neg h1, if_neg h1]
 by_cases h2 : digit c = true
 ·rw [if_pos h2, if_pos h2, List.takeWhile_cons_of_pos h2]
  by_cases h3 : goodNumber (c :: r.takeWhile digit) = true
  ·rw [if_pos h3, if_pos h3]
   have e : T.drop (i + (c :: r.takeWhile digit).length) = r.dropWhile digit := by
    rw [<- List.drop_drop, h, List.length_cons, List.drop_succ_cons, drop_takeWhile]
   dsimp only
   rw [e]
   rfl
  ·rw [if_neg h3, if_neg h3]
 rw [if_neg h2, if_neg h2]
 by_cases h3 : c = 34
 ·rw [if_pos h3, if_pos h3]
  cases q : quoted r with
  | none => rfl
  | some x =>
    dsimp only
    by_cases h4 : 1024 < x.1.length
    ·rw [if_pos h4, if_pos h4]
    ·rw [if_neg h4, if_neg h4]
     obtain ⟨j, e1, e2⟩ := lj r.length r (Nat.le_refl _) x q
     have e : T.drop (T.length - x.2.length) = x.2 := by
      rw [e1, List.length_drop, show T.length - (r.length - j) = i + (1 + j) by omega, <- List.drop_drop, h, Nat.add_comm 1 j, List.drop_succ_cons]
     dsimp only
     rw [e]
     rfl
 rw [if_neg h3, if_neg h3]
 by_cases h4 : isIn signs2 ((c :: r).take 2) = true
 ·rw [if_pos h4, if_pos h4]
  have e : T.drop (i + 2) = r.drop 1 := by rw [<- List.drop_drop, h, List.drop_succ_cons]
  dsimp only
  rw [e]
  rfl
 rw [if_neg h4, if_neg h4]
 by_cases h5 : isIn signs1 [c] = true
 ·rw [if_pos h5, if_pos h5]
  have e : T.drop (i + 1) = r := by rw [<- List.drop_drop, h]; rfl
  dsimp only
  rw [e]
  rfl
 rw [if_neg h5, if_neg h5]
theorem step_after {T : Text} {i m : Nat} {t : Tok} (hi : i < T.length) (h : stepT T i = .ok (t, m)) : i < m /\ m <= T.length := by
 unfold stepT at h
 have hl := List.length_drop (i := i) (l := T)
 split at h
 ·cases h
 ·rename_i c r e
  rw [e, List.length_cons] at hl
  split at h
  ·rename_i q
   have hin : inner c = true := by unfold inner; rw [q]; rfl
   split at h
   ·cases h
   ·have hw := (List.takeWhile_prefix (p := inner) (l := c :: r)).length_le
    have h0 : 0 < ((c :: r).takeWhile inner).length := by rw [List.takeWhile_cons_of_pos hin]; simp
    simp only [List.length_cons] at hw
    cases h
    omega
  ·split at h
   ·rename_i q
    split at h
    ·have hw := (List.takeWhile_prefix (p := digit) (l := c :: r)).length_le
     have h0 : 0 < ((c :: r).takeWhile digit).length := by rw [List.takeWhile_cons_of_pos q]; simp
     simp only [List.length_cons] at hw
     cases h
     omega
    ·cases h
   ·split at h
    ·split at h
     ·rename_i x q
      split at h
      ·cases h
      ·obtain ⟨j, e1, e2⟩ := lj r.length r (Nat.le_refl _) x q
       have : x.2.length <= r.length := by rw [e1, List.length_drop]; omega
       cases h
       omega
     ·cases h
    ·split at h
     ·rename_i q
      have : (c :: r).take 2 ≠ [c] := by
       intro z; rw [z] at q
       simp only [isIn, signs2, List.any_cons, List.any_nil, Bool.or_eq_true, beq_iff_eq] at q
       rcases q with q | q | q | q
       all_goals first | (have := congrArg List.length q; revert this; decide) | cases q
      cases r with
      | nil => exact absurd rfl this
      | cons b r => cases h; simp only [List.length_cons] at hl; omega
     ·split at h
      ·cases h; omega
      ·cases h
end Vp
namespace L2
open PySem PySem.Spec PyProof.Rows
def sp1 (f : V -> Hp -> VK -> XK -> Prop) : Sp := fun vs H Q E => match vs with | [a] => f a H Q E | _ => False
def sp2 (f : V -> V -> Hp -> VK -> XK -> Prop) : Sp := fun vs H Q E => match vs with | [a, b] => f a b H Q E | _ => False
def sp3 (f : V -> V -> V -> Hp -> VK -> XK -> Prop) : Sp := fun vs H Q E => match vs with | [a, b, c] => f a b c H Q E | _ => False
def sp4 (f : V -> V -> V -> V -> Hp -> VK -> XK -> Prop) : Sp := fun vs H Q E => match vs with | [a, b, c, d] => f a b c d H Q E | _ => False
def Fd (K : Frag) (mg : Str -> Option Value) (x : Str) (st : Stmt) : Prop := ∃ f fd, Fun K x x st f fd /\ mg x = some (.ref f)
def Mh (K : Frag) (C : Addr) (m qual : Str) (st : Stmt) : Prop := ∃ f fd, Fun K m qual st f fd /\ AJ K C m f
def BW (t : TS) : TS := fun D σ H => ∃ M : St -> Hp -> Prop, t { D with nx := M } σ H /\ ∀ σ' H', M σ' H' -> D.nx σ' H'
theorem bp {X : Cx} {st : Stmt} {t : TS} (h : PS X st t) : PS X st (BW t) := by
 intro pins s σ H D I ⟨M, h1, h2⟩
 refine thn (h pins s σ H { D with nx := M } I h1) fun f s' q => ?_
 cases f with
 | next => obtain ⟨σ', H', I', q⟩ := q; exact ⟨σ', H', I', h2 _ _ q⟩
 | ret v => exact q
 | brk => exact q
 | cont => exact q
theorem bo {t : TS} {D : mH} {σ : St} {H : Hp} (M : St -> Hp -> Prop) (h1 : t { D with nx := M } σ H) (h2 : ∀ σ' H', M σ' H' -> D.nx σ' H') : BW t D σ H := ⟨M, h1, h2⟩
def yC (t : TT) : TT := fun σ H Q => ∃ Q0 : Bool -> Hp -> Prop, t σ H Q0 /\ ∀ b H1, Q0 b H1 -> Q b H1
theorem f6 {X : Cx} {e : Expr} {t : TT} (h : PT X e t) : PT X e (yC t) := fun pins s σ H Q I ⟨Q0, h0, k⟩ => thn (h pins s σ H Q0 I h0) fun b s1 ⟨H1, I1, q⟩ => ⟨H1, I1, k _ _ q⟩
theorem yr {t : TT} {σ : St} {H : Hp} {Q : Bool -> Hp -> Prop} (Q0 : Bool -> Hp -> Prop) (h1 : t σ H Q0) (h2 : ∀ b H1, Q0 b H1 -> Q b H1) : yC t σ H Q := ⟨Q0, h1, h2⟩
theorem eS {t : TT} {σ : St} {H : Hp} {Q : Bool -> Hp -> Prop} (B : Bool) (h1 : t σ H fun b H1 => b = B /\ H1 = H) (h2 : Q B H) : yC t σ H Q := ⟨_, h1, fun b H1 e => by rw [e.1, e.2]; exact h2⟩
def lZ (P : Program) (w : World) (K : Frag) (mg : Str -> Option Value) (base : Heap) (k : Nat) (v : V) (sp : Sp) : Prop := ∃ f fd ps, v = .ref f /\ FnOk P w K mg base (CXR P w) k f fd ps sp /\ keepIn K (.ref f) = true /\ Binds K fd ps []
def BZ (X : Cx) (k : Nat) (sp : Sp) : TE := fun _ H Q => ∀ v, lZ X.prog X.w X.K X.mg X.base k v sp -> Q v H
theorem oQ {X : Cx} {x : Str} {k : Nat} {ps : List Str} {sp : Sp} {pos : Pos} (c : Fn X.prog X.w X.K X.mg X.base x k ps sp) (hg : Gl X x := by rfl) (hd : (x == ("__debug__" : Str)) = false := by decide) : PE X (.Name x pos) (BZ X k sp) := by
 obtain ⟨f, fd, h1, h2, h3, h4⟩ := c.ex
 exact (sR (v := .ref f) hg h1 rfl hd).imp fun σ H Q q => q _ ⟨f, fd, ps, rfl, h2, h3, h4⟩
def C6 (to te : TE) : TE := fun σ H Q => to σ H fun x H1 => match x with
 | .ref l => (∃ xs, H1 l = some (.lst xs)) /\ te σ H1 fun y H2 => ∃ xs, H2 l = some (.lst xs) /\ xs.length < sizeLine /\ Q .non (upd H2 l (.lst (xs ++ [y])))
 | _ => False
def Bw (to te : TE) : TE := fun σ H Q => to σ H fun x H1 => match x with
 | .ref l => (∃ xs, H1 l = some (.lst xs)) /\ te σ H1 fun y H2 => (match y with | .ref b => ∃ xs zs, H2 l = some (.lst xs) /\ H2 b = some (.lst zs) /\ xs.length + zs.length <= sizeLine /\ Q .non (upd H2 l (.lst (xs ++ zs))) | _ => False)
 | _ => False
def BX (to : TE) : TE := fun σ H Q => to σ H fun x H1 => match x with
 | .ref l => ∃ xs y, H1 l = some (.lst (xs ++ [y])) /\ Q y (upd H1 l (.lst xs))
 | _ => False
theorem cD {X : Cx} {o e : Expr} {to te : TE} {apos cpos : Pos} (ho : PE X o to) (he : PE X e te) (hbase : attributeBase o "append" X.env (eval o X.env) = eval o X.env := by rfl)
  (hfew : ((backTo cpos (starEach [e] X.env)).all (fun x => !x.1) && (backToKw cpos (keywordEach [] X.env)).all (fun x => x.1.isSome)
   && decide ([e].length + ([] : List Keyword).length + (if ([] : List Keyword).isEmpty then 0 else 1) < 30)) = true := by rfl)
  (hline : (apos.endLine == cpos.line) = true := by rfl) (hs : starEach [e] X.env = (false, eval e X.env) :: starEach [] X.env := by rfl) (hplain : (backTo cpos (starEach [] X.env)).any (·.1) = false := by rfl) :
  PE X (.Call (.Attribute o "append" apos) [e] [] cpos) (C6 to te) :=
 (yd PySem.F.plainAttrs_list PySem.F.slot_list_append PySem.F.type_list_append ub ho.up (a8 he.up aa hs) hbase hfew hline hs hplain).imp fun σ H Q h => ⟨_, h, fun x H1 h1 => by
  cases x <;> first | exact h1.elim | skip
  rename_i l
  obtain ⟨⟨xs, hx⟩, h2⟩ := h1
  exact ⟨.inl ⟨rfl, _, .inl (.inl hx)⟩, _, h2, fun y H2 ⟨xs, a, b, c⟩ => ⟨l, xs, y, rfl, rfl, a, b, c⟩⟩⟩
theorem vS {X : Cx} {o e : Expr} {to te : TE} {apos cpos : Pos} (ho : PE X o to) (he : PE X e te) (hbase : attributeBase o "extend" X.env (eval o X.env) = eval o X.env := by rfl)
  (hfew : ((backTo cpos (starEach [e] X.env)).all (fun x => !x.1) && (backToKw cpos (keywordEach [] X.env)).all (fun x => x.1.isSome)
   && decide ([e].length + ([] : List Keyword).length + (if ([] : List Keyword).isEmpty then 0 else 1) < 30)) = true := by rfl)
  (hline : (apos.endLine == cpos.line) = true := by rfl) (hs : starEach [e] X.env = (false, eval e X.env) :: starEach [] X.env := by rfl) (hplain : (backTo cpos (starEach [] X.env)).any (·.1) = false := by rfl) :
  PE X (.Call (.Attribute o "extend" apos) [e] [] cpos) (Bw to te) :=
 (yd PySem.F.plainAttrs_list PySem.F.slot_list_extend PySem.F.type_list_extend uC ho.up (a8 he.up aa hs) hbase hfew hline hs hplain).imp fun σ H Q h => ⟨_, h, fun x H1 h1 => by
  cases x <;> first | exact h1.elim | skip
  rename_i l
  obtain ⟨⟨xs, hx⟩, h2⟩ := h1
  refine ⟨.inl ⟨rfl, _, .inl (.inl hx)⟩, _, h2, fun y H2 h3 => ?_⟩
  cases y <;> first | exact h3.elim | skip
  obtain ⟨xs, zs, a, b, c, d⟩ := h3
  exact ⟨l, _, xs, zs, rfl, rfl, a, b, c, d⟩⟩
theorem ya {X : Cx} {o : Expr} {to : TE} {apos cpos : Pos} (ho : PE X o to) (hbase : attributeBase o "pop" X.env (eval o X.env) = eval o X.env := by rfl) (hline : (apos.endLine == cpos.line) = true := by rfl) :
  PE X (.Call (.Attribute o "pop" apos) [] [] cpos) (BX to) :=
 (AL PySem.F.plainAttrs_list PySem.F.slot_list_pop PySem.F.type_list_pop zk ho.up hbase hline).imp fun σ H Q h => ⟨_, h, fun x H1 h1 => by
  cases x <;> first | exact h1.elim | skip
  rename_i l
  obtain ⟨xs, y, hx, q⟩ := h1
  exact ⟨.inl ⟨rfl, _, .inl (.inl hx)⟩, l, _, y, rfl, rfl, hx, by simp, by rw [List.dropLast_concat]; exact q⟩⟩
section
variable {P : Program} {w : World} {K : Frag} {mg : Str -> Option Value} {base : Heap} {x qual : Str} {st : Stmt} {N : List Str} {k : Nat}
theorem Fn.of1 {p : Str} {f : V -> Hp -> VK -> XK -> Prop} (F : Fd K mg x st) (S : ai N [p] (ad st))
  (hb : ∀ (kV doc pm : Value) (an : Option Addr) (cdv ct : Value) (u : Value), bindArgs (fnOf x x (bg st) (aT st) (ad st) .none kV doc pm an cdv ct) ⟨[u], []⟩ = pure ([p].zip [u]))
  (body : ∀ (g : Addr) (cdv : Value) (A : Around) (outer : List Env) (s : Shared) (H : Hp) (a : V) (Q : VK) (E : XK), Room k (A.deeper (envOfC x (ad st) s.heap.objs.size g cdv)) -> f a H Q E ->
   ∃ t, PSs (fT (CXR P w) P w K mg base N x (ad st) g cdv A outer s H E) (aT st) t /\ t { nx := fun _ H' => Q .non H', rt := Q } (cE N [a]) H) : Fn P w K mg base x (k + 1) [p] (sp1 f) := by
 obtain ⟨g, fd, F, hm⟩ := F
 refine ⟨g, fd, hm, F.okX S (fun vs H Q E h => ?_) (fun cdv A outer s H vs Q E hr h => ?_), F.kp, F.binds (fun kV doc pm an cdv ct us hl => match us, hl with | [u], _ => hb kV doc pm an cdv ct u)⟩
 ·unfold sp1 at h; split at h <;> first | rfl | exact h.elim
 ·unfold sp1 at h; split at h <;> first | exact body g cdv A outer s H _ Q E hr h | exact h.elim
theorem Fn.of2 {p q : Str} {f : V -> V -> Hp -> VK -> XK -> Prop} (F : Fd K mg x st) (S : ai N [p, q] (ad st))
  (hb : ∀ (kV doc pm : Value) (an : Option Addr) (cdv ct : Value) (u v : Value), bindArgs (fnOf x x (bg st) (aT st) (ad st) .none kV doc pm an cdv ct) ⟨[u, v], []⟩ = pure ([p, q].zip [u, v]))
  (body : ∀ (g : Addr) (cdv : Value) (A : Around) (outer : List Env) (s : Shared) (H : Hp) (a b : V) (Q : VK) (E : XK), Room k (A.deeper (envOfC x (ad st) s.heap.objs.size g cdv)) -> f a b H Q E ->
   ∃ t, PSs (fT (CXR P w) P w K mg base N x (ad st) g cdv A outer s H E) (aT st) t /\ t { nx := fun _ H' => Q .non H', rt := Q } (cE N [a, b]) H) : Fn P w K mg base x (k + 1) [p, q] (sp2 f) := by
 obtain ⟨g, fd, F, hm⟩ := F
 refine ⟨g, fd, hm, F.okX S (fun vs H Q E h => ?_) (fun cdv A outer s H vs Q E hr h => ?_), F.kp, F.binds (fun kV doc pm an cdv ct us hl => match us, hl with | [u, v], _ => hb kV doc pm an cdv ct u v)⟩
 ·unfold sp2 at h; split at h <;> first | rfl | exact h.elim
 ·unfold sp2 at h; split at h <;> first | exact body g cdv A outer s H _ _ Q E hr h | exact h.elim
theorem Fn.of3 {p q r : Str} {f : V -> V -> V -> Hp -> VK -> XK -> Prop} (F : Fd K mg x st) (S : ai N [p, q, r] (ad st))
  (hb : ∀ (kV doc pm : Value) (an : Option Addr) (cdv ct : Value) (u v x1 : Value), bindArgs (fnOf x x (bg st) (aT st) (ad st) .none kV doc pm an cdv ct) ⟨[u, v, x1], []⟩ = pure ([p, q, r].zip [u, v, x1]))
  (body : ∀ (g : Addr) (cdv : Value) (A : Around) (outer : List Env) (s : Shared) (H : Hp) (a b c : V) (Q : VK) (E : XK), Room k (A.deeper (envOfC x (ad st) s.heap.objs.size g cdv)) -> f a b c H Q E ->
   ∃ t, PSs (fT (CXR P w) P w K mg base N x (ad st) g cdv A outer s H E) (aT st) t /\ t { nx := fun _ H' => Q .non H', rt := Q } (cE N [a, b, c]) H) : Fn P w K mg base x (k + 1) [p, q, r] (sp3 f) := by
 obtain ⟨g, fd, F, hm⟩ := F
 refine ⟨g, fd, hm, F.okX S (fun vs H Q E h => ?_) (fun cdv A outer s H vs Q E hr h => ?_), F.kp, F.binds (fun kV doc pm an cdv ct us hl => match us, hl with | [u, v, x1], _ => hb kV doc pm an cdv ct u v x1)⟩
 ·unfold sp3 at h; split at h <;> first | rfl | exact h.elim
 ·unfold sp3 at h; split at h <;> first | exact body g cdv A outer s H _ _ _ Q E hr h | exact h.elim
theorem Fn.of4 {p q r t : Str} {f : V -> V -> V -> V -> Hp -> VK -> XK -> Prop} (F : Fd K mg x st) (S : ai N [p, q, r, t] (ad st))
  (hb : ∀ (kV doc pm : Value) (an : Option Addr) (cdv ct : Value) (u v x1 x2 : Value), bindArgs (fnOf x x (bg st) (aT st) (ad st) .none kV doc pm an cdv ct) ⟨[u, v, x1, x2], []⟩ = pure ([p, q, r, t].zip [u, v, x1, x2]))
  (body : ∀ (g : Addr) (cdv : Value) (A : Around) (outer : List Env) (s : Shared) (H : Hp) (a b c d : V) (Q : VK) (E : XK), Room k (A.deeper (envOfC x (ad st) s.heap.objs.size g cdv)) -> f a b c d H Q E ->
   ∃ t, PSs (fT (CXR P w) P w K mg base N x (ad st) g cdv A outer s H E) (aT st) t /\ t { nx := fun _ H' => Q .non H', rt := Q } (cE N [a, b, c, d]) H) : Fn P w K mg base x (k + 1) [p, q, r, t] (sp4 f) := by
 obtain ⟨g, fd, F, hm⟩ := F
 refine ⟨g, fd, hm, F.okX S (fun vs H Q E h => ?_) (fun cdv A outer s H vs Q E hr h => ?_), F.kp, F.binds (fun kV doc pm an cdv ct us hl => match us, hl with | [u, v, x1, x2], _ => hb kV doc pm an cdv ct u v x1 x2)⟩
 ·unfold sp4 at h; split at h <;> first | rfl | exact h.elim
 ·unfold sp4 at h; split at h <;> first | exact body g cdv A outer s H _ _ _ _ Q E hr h | exact h.elim
theorem Md.of1 {C : Addr} {p : Str} {f : V -> Hp -> VK -> XK -> Prop} (F : Mh K C x qual st) (S : ai N [p] (ad st))
  (hb : ∀ (kV doc pm : Value) (an : Option Addr) (cdv ct : Value) (u : Value), bindArgs (fnOf x qual (bg st) (aT st) (ad st) .none kV doc pm an cdv ct) ⟨[u], []⟩ = pure ([p].zip [u]))
  (body : ∀ (g : Addr) (cdv : Value) (A : Around) (outer : List Env) (s : Shared) (H : Hp) (a : V) (Q : VK) (E : XK), Room k (A.deeper (envOfC qual (ad st) s.heap.objs.size g cdv)) -> f a H Q E ->
   ∃ t, PSs (fT (CXR P w) P w K mg base N qual (ad st) g cdv A outer s H E) (aT st) t /\ t { nx := fun _ H' => Q .non H', rt := Q } (cE N [a]) H) : Md P w K mg base C x (k + 1) [p] (sp1 f) := by
 obtain ⟨g, fd, F, hm⟩ := F
 refine ⟨g, fd, hm, F.okX S (fun vs H Q E h => ?_) (fun cdv A outer s H vs Q E hr h => ?_), F.binds (fun kV doc pm an cdv ct us hl => match us, hl with | [u], _ => hb kV doc pm an cdv ct u)⟩
 ·unfold sp1 at h; split at h <;> first | rfl | exact h.elim
 ·unfold sp1 at h; split at h <;> first | exact body g cdv A outer s H _ Q E hr h | exact h.elim
theorem Md.of2 {C : Addr} {p q : Str} {f : V -> V -> Hp -> VK -> XK -> Prop} (F : Mh K C x qual st) (S : ai N [p, q] (ad st))
  (hb : ∀ (kV doc pm : Value) (an : Option Addr) (cdv ct : Value) (u v : Value), bindArgs (fnOf x qual (bg st) (aT st) (ad st) .none kV doc pm an cdv ct) ⟨[u, v], []⟩ = pure ([p, q].zip [u, v]))
  (body : ∀ (g : Addr) (cdv : Value) (A : Around) (outer : List Env) (s : Shared) (H : Hp) (a b : V) (Q : VK) (E : XK), Room k (A.deeper (envOfC qual (ad st) s.heap.objs.size g cdv)) -> f a b H Q E ->
   ∃ t, PSs (fT (CXR P w) P w K mg base N qual (ad st) g cdv A outer s H E) (aT st) t /\ t { nx := fun _ H' => Q .non H', rt := Q } (cE N [a, b]) H) : Md P w K mg base C x (k + 1) [p, q] (sp2 f) := by
 obtain ⟨g, fd, F, hm⟩ := F
 refine ⟨g, fd, hm, F.okX S (fun vs H Q E h => ?_) (fun cdv A outer s H vs Q E hr h => ?_), F.binds (fun kV doc pm an cdv ct us hl => match us, hl with | [u, v], _ => hb kV doc pm an cdv ct u v)⟩
 ·unfold sp2 at h; split at h <;> first | rfl | exact h.elim
 ·unfold sp2 at h; split at h <;> first | exact body g cdv A outer s H _ _ Q E hr h | exact h.elim
end
end L2
local macro_rules | `(tactic| walk_at "rd") => `(tactic| simp only [L2.fT, L2.wY, L2.xQ, L2.xy, L2.vT, L2.o7, L2.Bs, L2.xY, L2.cV, L2.tC, L2.oI, L2.tOp, L2.oEq, L2.oNe, L2.Bt, L2.zf, L2.cT, L2.cCh, L2.CT, L2.cOr, L2.C5, L2.C2, L2.tOr, L2.Bh, L2.cF, L2.cSF, L2.cAF, L2.zd, L2.oIx, L2.wG, L2.Ap, L2.wb, L2.tCB, L2.li, L2.nD, L2.cC, L2.cM, L2.cMk, L2.wQ, L2.C8, L2.tRz, L2.tB, L2.C6, L2.Bw, L2.BX, L2.uY, L2.BZ, L2.vx, L2.xP, L2.Aq, L2.yn, L2.uU, L2.oIn, L2.tSl, L2.xV, L2.sS, L2.C9, L2.sp1, L2.sp2, L2.sp3, L2.sp4, L2.cE, List.map_cons, List.map_nil, List.length_cons, List.length_nil, Nat.zero_add, Nat.reduceAdd, Nat.reduceSub, List.replicate_succ, List.replicate_zero, List.replicate_one, List.cons_append, List.nil_append, List.getElem?_cons_zero, List.getElem?_cons_succ, List.set_cons_zero, List.set_cons_succ, Bool.false_eq_true, if_false, if_true, decide_eq_true_eq, Bool.not_eq_true', decide_eq_false_iff_not, Nat.sub_self])
namespace L2
open PySem PySem.Spec PyProof.Rows
def bts (l : List Nat) : List V := l.map fun (n : Nat) => V.int (n : Int)
theorem bz (l : List Nat) : (bts l).length = l.length := List.length_map ..
theorem oV {l : List Nat} {i : Nat} : (bts l)[i]? = l[i]?.map fun (n : Nat) => V.int (n : Int) := List.getElem?_map ..
theorem dH {l : List Nat} {i c : Nat} (h : l[i]? = some c) : atI (bts l) (i : Int) = some (.int (c : Int)) := c7 rfl (by rw [oV, h]; rfl)
def TextAt (K : Frag) (H : Hp) (v : V) (T : List Nat) : Prop := ∃ p, v = .ref p /\ SqL K H p (bts T)
theorem TextAt.same {K : Frag} {H H' : Hp} {v : V} {T : List Nat} (h : TextAt K H v T) (e : Same H H') : TextAt K H' v T := let ⟨p, h1, h2⟩ := h; ⟨p, h1, e.seq h2⟩
section
variable {P : Program} {w : World} {K : Frag} {mg : Str -> Option Value} {base : Heap} {A : Ad} {k : Nat}
def fJ (p : Nat -> Bool) : Sp := sp1 fun a H Q _ => ∃ c : Nat, a = .int c /\ Q (.bl (p c)) H
def xK : Sp := sp1 fun a H Q _ => ∃ c : Nat, a = .int c /\ Q (if Vablda.hex c = true then .int (Vablda.hexValue c : Nat) else .non) H
def kb (K : Frag) : Sp := sp2 fun a b H Q _ => ∃ (T : List Nat) (n : Nat), TextAt K H a T /\ b = .int n /\ Q (.int ((T[n]?).getD 256 : Nat)) H
abbrev i3 : Stmt := top 71
theorem qk : ai ["byte"] ["byte"] (ad i3) := by walk_at "sc"
theorem oY (T : Txt P w K mg A) (F : Fd K mg "is_letter" i3)   : Fn P w K mg base "is_letter" (k + 1) ["byte"] (fJ Vablda.letter) := by
 refine Fn.of1 F qk (fun _ _ _ _ _ _ _ => rfl) fun g cdv Ar outer s H a Q E hr h => ⟨_, (ac (aj (vh (zZ nO nO ap (q_v 0) ap) (vh (zZ nO nO ap (q_v 0) ap) (jm (cP bP (q_v 0) ap (by first | exact bq _ (by decide) (by decide) | rfl))))))), ?_⟩
 obtain ⟨c, rfl, q⟩ := h
 walk_at "rd"
 repeat' split
 all_goals first
  | (have e : Vablda.letter c = true := (by simp only [Vablda.letter, Bool.or_eq_true, Bool.and_eq_true, decide_eq_true_eq, beq_iff_eq]; omega); rw [e] at q; exact q)
  | (rename_i h1 h2; have e : decide ((c : Int) = 95) = Vablda.letter c := (by simp only [Vablda.letter, <- Bool.decide_or, <- Bool.decide_and]; rw [Bool.beq_eq_decide_eq]; simp only [<- Bool.decide_or, <- Bool.decide_and]; exact decide_eq_decide.mpr (by omega)); rw [e]; exact q)
abbrev jv : Stmt := top 72
theorem rC : ai ["byte"] ["byte"] (ad jv) := by walk_at "sc"
theorem qI (T : Txt P w K mg A) (F : Fd K mg "is_digit" jv)   : Fn P w K mg base "is_digit" (k + 1) ["byte"] (fJ Vablda.digit) := by
 refine Fn.of1 F rC (fun _ _ _ _ _ _ _ => rfl) fun g cdv Ar outer s H a Q E hr h => ⟨_, (ac (aj (zZ nO nO ap (q_v 0) ap))), ?_⟩
 obtain ⟨c, rfl, q⟩ := h
 walk_at "rd"
 split
 ·have e : decide ((c : Int) <= 57) = Vablda.digit c := by
   simp only [Vablda.digit, <- Bool.decide_and]
   exact decide_eq_decide.mpr (by omega)
  rw [e]; exact q
 ·have e : Vablda.digit c = false := by
   simp only [Vablda.digit, <- Bool.decide_and]
   exact decide_eq_false (by omega)
  rw [e] at q; exact q
abbrev i4 : Stmt := top 82
theorem qu : ai ["byte"] ["byte"] (ad i4) := by walk_at "sc"
theorem oU (T : Txt P w K mg A) (F : Fd K mg "hex_worth" i4) (ba : Fn P w K mg base "is_digit" k ["byte"] (fJ Vablda.digit))  : Fn P w K mg base "hex_worth" (k + 1) ["byte"] xK := by
 refine Fn.of1 F qu (fun _ _ _ _ _ _ _ => rfl) fun g cdv Ar outer s H a Q E hr h => ⟨_, (a9 (aE (c6 (q_c ba hr ae (a8 (q_v 0) aa))) (ac (aj (cq rg (q_v 0) ap))) am) (a9 (aE (yh nO nO ap (q_v 0) ap) (ac (aj (cq rg (q_v 0) ap))) am) (ac (aj mY)))), ?_⟩
 obtain ⟨c, rfl, q⟩ := h
 simp only [fJ]
 walk_at "rd"
 refine ⟨c, rfl, ?_⟩
 simp only [Vablda.hex, Vablda.hexValue, Bool.or_eq_true, Bool.and_eq_true, decide_eq_true_eq] at q
 by_cases h1 : Vablda.digit c = true
 ·simp only [h1, true_or, if_true] at q ⊢
  have : 48 <= c := by simp only [Vablda.digit, Bool.and_eq_true, decide_eq_true_eq] at h1; omega
  have e : ((c - 48 : Nat) : Int) = (c : Int) - 48 := by omega
  rw [<- e]; exact q
 ·simp only [h1, Bool.false_eq_true, false_or, if_false] at q ⊢
  by_cases h2 : 97 <= c /\ c <= 102
  ·rw [if_pos h2] at q
   rw [if_pos (by omega), if_pos (by omega)]
   have e : ((c - 87 : Nat) : Int) = (c : Int) - 87 := by omega
   rw [<- e]; exact q
  ·rw [if_neg h2] at q
   split
   ·rw [if_neg (by omega)]; exact q
   ·exact q
abbrev kj : Stmt := top 79
theorem sv : ai ["text", "at"] ["text", "at"] (ad kj) := by walk_at "sc"
theorem sx (T : Txt P w K mg A) (F : Fd K mg "byte_at" kj)   : Fn P w K mg base "byte_at" (k + 1) ["text", "at"] (kb K) := by
 refine Fn.of2 F sv (fun _ _ _ _ _ _ _ _ => rfl) fun g cdv Ar outer s H a b Q E hr h => ⟨_, (a9 (aE (b7 uX (q_v 1) (cy (x := "len") T.b_len (q_v 0))) (ac (aj (eX (q_v 0) (q_v 1)))) am) (ac (aj (q_g T.g_NO_BYTE)))), ?_⟩
 obtain ⟨T', n, ⟨p, rfl, hp⟩, rfl, q⟩ := h
 walk_at "rd"
 refine ⟨_, hp, ?_⟩
 rw [bz]
 by_cases hn : n < T'.length
 ·rw [if_pos (by omega)]
  obtain ⟨c, hc⟩ : ∃ c, T'[n]? = some c := ⟨T'[n], List.getElem?_eq_getElem hn⟩
  rw [hc] at q
  exact ⟨_, _, hp, dH hc, q⟩
 ·rw [if_neg (by omega)]
  rw [List.getElem?_eq_none (by omega)] at q
  exact q
end
end L2
namespace L2
open PySem PySem.Spec PyProof.Rows
theorem bG {α : Type} : ∀ {l : List α} {i : Nat} {x : α}, l[i]? = some x -> l.take (i + 1) = l.take i ++ [x]
 | [], i, x, h => by simp at h
 | a :: l, 0, x, h => by
   have e : a = x := Option.some.inj h
   subst e
   rfl
 | a :: l, i + 1, x, h => by
   have ih := bG (l := l) (i := i) (x := x) h
   show a :: l.take (i + 1) = a :: l.take i ++ [x]
   rw [ih]
   rfl
theorem Same.upd {H : Hp} {a : Addr} {o : HO} (h : H a = none) : Same H (upd H a o) := fun b u e => by rw [al (az e h)]; exact e
theorem Same.upd2 {H H' : Hp} {a : Addr} {o : HO} (s : Same H H') (h : H a = none) : Same H (L2.upd H' a o) := fun b u e => by rw [al (az e h)]; exact s b u e
section
variable {P : Program} {w : World} {K : Frag} {mg : Str -> Option Value} {base : Heap} {A : Ad} {k : Nat}
def va (K : Frag) (p : Nat -> Bool) : Sp := sp2 fun a b H Q _ => ∃ (T : List Nat) (n : Nat), TextAt K H a T /\ b = .int n /\ n <= T.length /\ Q (.int ((n + ((T.drop n).takeWhile p).length : Nat))) H
abbrev fF : Stmt := top 69
theorem eP : ai ["text", "place", "at"] ["text", "place"] (ad fF) := by walk_at "sc"
theorem nB (T : Txt P w K mg A) (F : Fd K mg "remark_end" fF)   : Fn P w K mg base "remark_end" (k + 1) ["text", "place"] (va K (fun x => x != 10)) := by
 refine Fn.of2 F eP (fun _ _ _ _ _ _ _ _ => rfl) fun g cdv Ar outer s H a b Q E hr h => ⟨_, (a9 (aq (i := 2) (q_v 1) eP.nd) (a9 (bp (bv PassesOwn.leaving (f6 (mf (b7 uX (q_v 2) (cy (x := "len") T.b_len (q_v 0))) (jX (b7 uJ (eX (q_v 0) (q_v 2)) (q_g T.g_LINE_FEED)))).pt) (ac (qP (i := 2) jt ap eP.nd rfl (Or.inl rfl))))) (ac (aj (q_v 2))))), ?_⟩
 obtain ⟨T', n, ⟨p, rfl, hp⟩, rfl, hn, q⟩ := h
 walk_at "rd"
 refine bo (fun σ H' => H' = H /\ σ = [some (.ref p), some (.int n), some (.int ((n + ((T'.drop n).takeWhile fun x => x != 10).length : Nat) : Int))])
  (Exists.intro (fun m σ H' => ∃ j : Nat, σ = [some (.ref p), some (.int n), some (.int j)] /\ H' = H /\ m = T'.length - j /\ n <= j /\ j <= n + ((T'.drop n).takeWhile fun x => x != 10).length) ⟨⟨T'.length - n, n, rfl, rfl, rfl, by omega, by omega⟩, ?_⟩) ?_
 ·rintro m σ _ ⟨j, rfl, rfl, rfl, h1, h2⟩
  have sc := Vp.scan (fun x => x != 10) T' n j h1 h2
  refine eS (decide (j < n + ((T'.drop n).takeWhile fun x => x != 10).length)) ?_ ?_
  ·walk_at "rd"
   refine ⟨_, hp, ?_⟩
   rw [bz]
   by_cases hj : j < T'.length
   ·rw [if_pos (by omega)]
    obtain ⟨c, hc⟩ : ∃ c, T'[j]? = some c := ⟨T'[j], List.getElem?_eq_getElem hj⟩
    refine ⟨_, _, hp, dH hc, ?_, by trivial⟩
    by_cases h10 : c = 10
    ·subst h10
     have e : ¬ (j < n + ((T'.drop n).takeWhile fun x => x != 10).length) := by
      rw [<- sc]; rintro ⟨c', e1, e2⟩; rw [hc] at e1; cases e1; exact absurd e2 (by decide)
     rw [decide_eq_false e]; rfl
    ·have e : j < n + ((T'.drop n).takeWhile fun x => x != 10).length := by
      rw [<- sc]; exact ⟨c, hc, by simp [h10]⟩
     rw [decide_eq_true e, decide_eq_false (show ¬ ((c : Int) = 10) by omega)]; rfl
   ·rw [if_neg (by omega)]
    have e : ¬ (j < n + ((T'.drop n).takeWhile fun x => x != 10).length) := by
     rw [<- sc]; rintro ⟨c', e1, e2⟩; rw [List.getElem?_eq_none (by omega)] at e1; cases e1
    exact ⟨(decide_eq_false e).symm, by trivial⟩
  ·by_cases e : j < n + ((T'.drop n).takeWhile fun x => x != 10).length
   ·rw [decide_eq_true e]
    have hw := (List.takeWhile_prefix (p := fun x => x != 10) (l := T'.drop n)).length_le
    rw [List.length_drop] at hw
    walk_at "rd"
    exact ⟨_, fun _ _ h => h, T'.length - (j + 1), by omega, j + 1, rfl, rfl, rfl, by omega, by omega⟩
   ·rw [decide_eq_false e]
    walk_at "rd"
    obtain rfl : j = n + ((T'.drop n).takeWhile fun x => x != 10).length := by omega
    exact ⟨by trivial, by trivial⟩
 ·rintro σ _ ⟨rfl, rfl⟩
  walk_at "rd"
  exact q
def cps (z : Str) : List Nat := z.cps.toList
def tL : Sp := sp1 fun a H Q _ => ∃ z : Str, a = .str z /\ z.length < 1000 /\ ∀ p, H p = none -> Q (.ref p) (upd H p (.lst (bts (cps z))))
abbrev j9 : Stmt := top 43
theorem gO : ai ["text", "sign"] ["text"] (ad j9) := by walk_at "sc"
theorem qO (T : Txt P w K mg A) (F : Fd K mg "codes_of" j9)   : Fn P w K mg base "codes_of" (k + 1) ["text"] tL := by
 refine Fn.of1 F gO (fun _ _ _ _ _ _ _ => rfl) fun g cdv Ar outer s H a Q E hr h => ⟨_, (ac (aj (vH rfl gO.nd (AI (q_v 0)) (lQ (own := [("sign", 1)]) rfl) (fun _ _ _ _ _ => cO (i := 1) gO.nd rfl (Or.inl rfl) (.inr rfl)) (fun _ _ _ _ _ => sW) (fun _ _ _ _ _ => jD vG rfl T.b_ord (by rfl) (a8 (q_v 1) aa))))), ?_⟩
 obtain ⟨z, rfl, hz, q⟩ := h
 walk_at "rd"
 refine ⟨z, rfl, fun D hD => Exists.intro (fun i m H' => m = z.cps.size - i /\ i <= z.cps.size /\ H' = upd H D (.lst (bts ((cps z).take i)))) ⟨⟨_, rfl, Nat.zero_le _, rfl⟩, ?_⟩⟩
 rintro i m _ ⟨rfl, hi, rfl⟩
 have hlen : z.cps.size = (cps z).length := rfl
 have hz : z.cps.size < 1000 := hz
 by_cases hlt : i < z.cps.size
 ·refine .inr ⟨hlt, fun H' => H' = upd H D (.lst (bts ((cps z).take (i + 1)))), fun H' e => ⟨_, by omega, rfl, hlt, e⟩, ?_⟩
  rintro x _ ⟨rfl, c, hc, rfl⟩
  refine ⟨rfl, ?_⟩
  refine ⟨_, rfl, rfl, _, af, ?_, ?_⟩
  ·rw [bz, List.length_take]
   exact u5 (by omega)
  ·rw [dX]
   have hc' : (cps z)[i]? = some c := by rw [<- hc]; exact (Array.getElem?_toList ..)
   rw [bG hc', bts, List.map_append]
   rfl
 ·refine .inl ⟨by show z.cps.size <= i; omega, ?_⟩
  have : (cps z).take i = cps z := List.take_of_length_le (by omega)
  rw [this]
  exact q D hD
def tW (K : Frag) : Sp := sp1 fun a H Q _ => ∃ D : List Nat, TextAt K H a D /\ D.length <= 19 /\ (∀ c ∈ D, Vablda.digit c = true) /\ Q (.int (Vablda.valueOf D : Nat)) H
theorem qX : ∀ (D : List Nat) (n : Nat), (∀ c ∈ D, Vablda.digit c = true) -> D.foldl (fun n c => 10 * n + (c - 48)) n < (n + 1) * 10 ^ D.length
 | [], n, _ => by simp
 | c :: D, n, h => by
   have hc := h c (List.mem_cons.mpr (.inl rfl))
   simp only [Vablda.digit, Bool.and_eq_true, decide_eq_true_eq] at hc
   have ih := qX D (10 * n + (c - 48)) fun x hx => h x (List.mem_cons.mpr (.inr hx))
   rw [List.foldl_cons, List.length_cons, Nat.pow_succ]
   refine Nat.lt_of_lt_of_le ih ?_
   rw [Nat.mul_comm (10 ^ D.length) 10, <- Nat.mul_assoc]
   exact Nat.mul_le_mul_right _ (by omega)
abbrev iI : Stmt := top 77
theorem dW : ai ["digits", "worth", "digit"] ["digits"] (ad iI) := by walk_at "sc"
theorem qW (T : Txt P w K mg A) (F : Fd K mg "worth_of" iI)   : Fn P w K mg base "worth_of" (k + 1) ["digits"] (tW K) := by
 refine Fn.of1 F dW (fun _ _ _ _ _ _ _ => rfl) fun g cdv Ar outer s H a Q E hr h => ⟨_, (a9 (aq (i := 1) ap dW.nd) (a9 (bp (iX PassesOwn.leaving rfl (fm (q_v 0)) (cO (i := 2) dW.nd rfl (Or.inl rfl)) (ac (aq (i := 1) (cq rg (cq fZ (cq ye (q_v 1) ap) (q_v 2)) (q_g T.g_ZERO)) dW.nd)))) (ac (aj (q_v 1))))), ?_⟩
 obtain ⟨D, ⟨p, rfl, hp⟩, hD, hd, q⟩ := h
 walk_at "rd"
 refine bo (fun σ H' => H' = H /\ ∃ x, σ = [some (.ref p), some (.int (Vablda.valueOf D : Nat)), x]) ⟨_, rfl, ⟨_, hp⟩, gG (xs := bts D) (fun i σ H' => H' = H /\ ∃ x, σ = [some (.ref p), some (.int (Vablda.valueOf (D.take i) : Nat)), x]) ⟨rfl, _, rfl⟩ (fun i σ H' _ h => by rw [h.1]; exact hp) ?_ (fun σ H' h => by rw [bz, List.take_length] at h; exact h)⟩ ?_
 ·rintro i x σ H' hx ⟨rfl, y, rfl⟩
  rw [oV] at hx
  obtain ⟨c, hc, rfl⟩ := Option.map_eq_some_iff.mp hx
  have hi : i < D.length := (List.getElem?_eq_some_iff.mp hc).1
  have hdc := hd c (List.mem_of_getElem? hc)
  simp only [Vablda.digit, Bool.and_eq_true, decide_eq_true_eq] at hdc
  have hv : Vablda.valueOf (D.take i) < 10 ^ 18 := by
   have v := qX (D.take i) 0 fun c h => hd c (List.mem_of_mem_take h)
   have : (D.take i).length <= 18 := by rw [List.length_take]; omega
   have : (10 : Nat) ^ (D.take i).length <= 10 ^ 18 := Nat.pow_le_pow_right (by decide) this
   unfold Vablda.valueOf
   omega
  walk_at "rd"
  refine ⟨⟨by omega, by omega⟩, ?_⟩
  rw [bG hc]
  have e : (Vablda.valueOf (D.take i ++ [c]) : Nat) = 10 * Vablda.valueOf (D.take i) + (c - 48) := by
   unfold Vablda.valueOf
   rw [List.foldl_append]
   rfl
  rw [e]
  have e2 : ((Vablda.valueOf (D.take i) : Nat) : Int) * 10 + c - 48 = ((10 * Vablda.valueOf (D.take i) + (c - 48) : Nat) : Int) := by omega
  rw [e2]
  exact ⟨trivial, _, rfl⟩
 ·rintro σ H' ⟨rfl, y, rfl⟩
  walk_at "rd"
  exact q
end
end L2
namespace L2
open PySem PySem.Spec PyProof.Rows
def b9 (t : Vablda.Tok) : Str := match t.kind with
 | 0 => "end"
 | 1 => "name"
 | 3 => "number"
 | 4 => "text"
 | _ => if t.text = [37] then "percent" else ⟨t.text.toArray⟩
def c8 (t : Vablda.Tok) : List Nat := match t.kind with
 | 1 => t.text
 | 3 => t.text
 | 4 => t.text
 | _ => []
def D5 (k : Str) (p m : Nat) (dl : Addr) : List (Str × V) := [("kind", .str k), ("place", .int p), ("after", .int m), ("data", .ref dl)]
def oX (vs : List V) : List (Str × V) := match vs with
 | [k, p, m, d] => [("kind", k), ("place", p), ("after", m), ("data", d)]
 | _ => []
def TokAt (N : Addr -> Prop) (C : Addr) (H : Hp) (v : V) (t : Vablda.Tok) (m : Nat) : Prop := ∃ a dx dl, v = .ref a /\ (N a /\ N dl) /\ H a = some (.ins C dx (D5 (b9 t) t.place m dl)) /\ H dl = some (.lst (bts (c8 t)))
theorem TokAt.same {N : Addr -> Prop} {C : Addr} {H H' : Hp} {v : V} {t : Vablda.Tok} {m : Nat} (h : TokAt N C H v t m) (e : ∀ b o, N b -> H b = some o -> H' b = some o) : TokAt N C H' v t m := let ⟨a, dx, dl, h1, h0, h2, h3⟩ := h; ⟨a, dx, dl, h1, h0, e _ _ h0.1 h2, e _ _ h0.2 h3⟩
theorem TokAt.mono {N N' : Addr -> Prop} {C : Addr} {H : Hp} {v : V} {t : Vablda.Tok} {m : Nat} (h : TokAt N C H v t m) (e : ∀ b, N b -> N' b) : TokAt N' C H v t m := let ⟨a, dx, dl, h1, h0, h2, h3⟩ := h; ⟨a, dx, dl, h1, ⟨e _ h0.1, e _ h0.2⟩, h2, h3⟩
theorem bI {H H' : Hp} {a dx : Addr} {o : HO} (e : Same H H') (ha : H' a = none) (hd : H' dx = none) : Same H (upd (upd H' dx (.own a)) a o) := fun b u h => by
 have h' := e b u h
 rw [al (az h' ha), al (az h' hd)]
 exact h'
theorem dy {C : Addr} {H0 H : Hp} {a dx dl : Addr} {t : Vablda.Tok} {k : Str} {p m : Nat} (hs : Same H0 H) (ha : H a = none) (hd : H dx = none) (nl : H0 dl = none) (hl : H dl = some (.lst (bts (c8 t)))) (hk : k = b9 t) (hp : p = t.place) :
  TokAt (fun x => H0 x = none) C (upd (upd H dx (.own a)) a (.ins C dx (oX [.str k, .int p, .int m, .ref dl]))) (.ref a) t m := by
 subst hk hp
 refine ⟨a, dx, dl, rfl, ⟨hs.free ha, nl⟩, af, ?_⟩
 rw [al (az hl ha), al (az hl hd)]
 exact hl
def keptL : List (List Nat) := Vablda.keptWords.map Vablda.str
theorem sU : eF = keptL.map fun l => V.str ⟨l.toArray⟩ := by rfl
theorem je (D : List Nat) : Vablda.isKept D = keptL.any fun l => l == D := by
 unfold Vablda.isKept Vablda.isIn keptL
 rw [List.any_map]
 rfl
theorem uo : ∀ l ∈ keptL, l.length < 10 := by decide
theorem nc {K : Frag} {H : Hp} : ∀ D : List Nat, mw K H (bts D) (D.map fun (n : Nat) => PyData.int (n : Int))
 | [] => .nil
 | n :: D => .cons (.int _) (nc D)
theorem jo : ∀ D D' : List Nat, PyData.eqvAll (D.map fun (n : Nat) => PyData.int (n : Int)) (D'.map fun (n : Nat) => PyData.int (n : Int)) = decide (D = D')
 | [], [] => by simp [PyData.eqvAll]
 | [], _ :: _ => by simp [PyData.eqvAll]
 | _ :: _, [] => by simp [PyData.eqvAll]
 | a :: D, b :: D' => by
   simp only [List.map_cons, PyData.eqvAll, jo D D', PyData.eqv]
   by_cases h : a = b
   ·simp [h]
   ·have : ¬ ((a : Int) = b) := by omega
    simp [h, this]
theorem nj (D : List Nat) : SeqAt.shaped (.list (D.map fun (n : Nat) => PyData.int (n : Int))) = true := by
 have h1 : ∀ D : List Nat, PyData.canLayAll0 (D.map fun (n : Nat) => PyData.int (n : Int)) = true := by
  intro D; induction D with
  | nil => simp [PyData.canLayAll0]
  | cons a D ih => simp [PyData.canLayAll0, PyData.canLay0, ih]
 have h2 : ∀ D : List Nat, PyData.depthAll (D.map fun (n : Nat) => PyData.int (n : Int)) <= 1 := by
  intro D; induction D with
  | nil => simp [PyData.depthAll]
  | cons a D ih => simp [PyData.depthAll, PyData.depth, ih]
 simp [SeqAt.shaped, PyData.canLay0, PyData.depth, h1, h2]
 exact Nat.le_trans (h2 D) (by decide)
theorem mR {D : List Nat} (h : D.length < 1000) : SeqAt.shaped (.list (D.map fun (n : Nat) => PyData.int (n : Int))) = true := nj D
section
variable {P : Program} {w : World} {K : Frag} {mg : Str -> Option Value} {base : Heap} {A : Ad} {k : Nat}
abbrev cI : Stmt := aG (top 67) 0
theorem jE : ai ["self", "kind", "place", "after", "data"] ["self", "kind", "place", "after", "data"] (ad cI) := by walk_at "sc"
theorem vy {j : Nat} {f : Addr} {fd : FuncData} (F : Fun K "__init__" "Token.__init__" cI f fd) (T : Txt P w K mg A) : FnOk P w K mg base (CXR P w) (j + 1) f fd ["self", "kind", "place", "after", "data"] (iG A.tok 4 oX) := by
 refine F.okX jE (fun vs H Q E h => ?_) (fun cdv Ar outer s H vs Q E hr h => ⟨_, (a9 (ng T.cl_tok T.na_tok_kind (q_v 0) (q_v 1)) (a9 (ng T.cl_tok T.na_tok_place (q_v 0) (q_v 2)) (a9 (ng T.cl_tok T.na_tok_after (q_v 0) (q_v 3)) (ac (ng T.cl_tok T.na_tok_data (q_v 0) (q_v 4)))))), ?_⟩)
 ·unfold iG at h
  split at h
  ·obtain ⟨h1, _⟩ := h; simp [h1]
  ·exact h.elim
 ·unfold iG at h
  split at h
  ·obtain ⟨h1, dx, h2, q⟩ := h
   rename_i p args
   match args, h1 with
   | [k', p', m', d'], _ =>
     walk_at "rd"
     refine ⟨_, _, h2, by decide, _, _, af, by (show 1 < 1000; decide), _, _, af, by (show 2 < 1000; decide), _, _, af, by (show 3 < 1000; decide), ?_⟩
     simp only [dX]
     exact q
  ·exact h.elim
def vw (K : Frag) : Sp := sp1 fun a H Q _ => ∃ D : List Nat, TextAt K H a D /\ D.length < 1000 /\ ∀ H', Same H H' -> Q (if Vablda.isKept D = true then .str ⟨D.toArray⟩ else .non) H'
abbrev gH : Stmt := top 75
theorem jV : ai ["data", "word"] ["data"] (ad gH) := by walk_at "sc"
theorem pq (T : Txt P w K mg A) (F : Fd K mg "kept_word" gH) (iP : Fn P w K mg base "codes_of" k ["text"] tL)  : Fn P w K mg base "kept_word" (k + 1) ["data"] (vw K) := by
 refine Fn.of1 F jV (fun _ _ _ _ _ _ _ => rfl) fun g cdv Ar outer s H a Q E hr h => ⟨_, (a9 (bp (iX PassesOwn.leaving rfl (z0 (q_g T.g_KEPT_WORDS)) (cO (i := 1) jV.nd rfl (Or.inl rfl)) (ac (aE (f6 (mf (b7 bP (zO (x := "len") T.b_len (q_v 1)) (cy (x := "len") T.b_len (q_v 0))) (jX (b7 (zC hr.units) (q_c iP hr ae (a8 (q_v 1) aa)) (q_v 0)))).pt) (ac (aj (q_v 1))) am)))) (ac (aj mY))), ?_⟩
 obtain ⟨D, ⟨p, rfl, hp⟩, hD, q⟩ := h
 walk_at "rd"
 refine bo (fun σ H' => Same H H' /\ (∃ x, σ = [some (.ref p), x]) /\ ∀ (j : Nat) l, keptL[j]? = some l -> l ≠ D) ⟨_, rfl, ⟨_, T.t_KEPT_WORDS.sq _⟩, xE (xs := eF) (fun i σ H' => Same H H' /\ (∃ x, σ = [some (.ref p), x]) /\ ∀ j l, j < i -> keptL[j]? = some l -> l ≠ D) ⟨Same.refl _, ⟨_, rfl⟩, fun j l h => by omega⟩ (fun i σ H' _ h => T.t_KEPT_WORDS.sq _) ?_ (fun σ H' h => ⟨h.1, h.2.1, fun j l hj => h.2.2 j l (by rw [sU, List.length_map]; exact (List.getElem?_eq_some_iff.mp hj).1) hj⟩)⟩ ?_
 ·rintro i x σ H' hx ⟨hs, ⟨y, rfl⟩, hno⟩
  rw [sU, List.getElem?_map] at hx
  obtain ⟨l, hl, rfl⟩ := Option.map_eq_some_iff.mp hx
  have hll := uo l (List.mem_of_getElem? hl)
  walk_at "rd"
  have hsz : (⟨l.toArray⟩ : Str).length = l.length := rfl
  have next : l ≠ D -> ∀ H'', Same H' H'' -> Same H H'' /\ (∃ x, [some (V.ref p), some (V.str ⟨l.toArray⟩)] = [some (V.ref p), x]) /\ ∀ j l', j < i + 1 -> keptL[j]? = some l' -> l' ≠ D := fun hne H'' hs' =>
   ⟨hs.trans hs', ⟨_, rfl⟩, fun j l' hj hl' => by
    by_cases e : j = i
    ·subst e; rw [hl] at hl'; cases hl'; exact hne
    ·exact hno j l' (by omega) hl'⟩
  refine yr (fun b H1 => Same H' H1 /\ b = decide (l = D)) ?_ ?_
  ·walk_at "rd"
   refine ⟨by rw [hsz, sizeLine_eq]; omega, _, hs.seq hp, ?_⟩
   rw [bz, hsz]
   by_cases hlen : l.length = D.length
   ·rw [if_pos (by omega)]
    refine ⟨_, rfl, (by rw [hsz]; omega), fun c hc => ?_⟩
    have hs2 : Same H' (upd H' c (.lst (bts l))) := Same.upd hc
    refine ⟨_, _, .lst (.inl (.inl af)) (nc l), .lst (hs2.seq (hs.seq hp)) (nc D), mR (by omega), mR hD, ?_⟩
    simp only [PyData.eqv, jo]
    exact ⟨hs2, by trivial⟩
   ·rw [if_neg (by omega)]
    exact ⟨Same.refl _, (decide_eq_false fun e => hlen (by rw [e])).symm⟩
  ·rintro b H1 ⟨hs2, rfl⟩
   by_cases he : l = D
   ·rw [decide_eq_true he, if_pos rfl]
    have q' := q _ (hs.trans hs2)
    have hk : Vablda.isKept D = true := by
     rw [je]; exact List.any_eq_true.mpr ⟨l, List.mem_of_getElem? hl, by simp [he]⟩
    rw [if_pos hk, <- he] at q'
    exact q'
   ·rw [decide_eq_false he, if_neg (by decide)]
    exact next he _ hs2
 ·rintro σ H' ⟨hs, ⟨y, rfl⟩, hno⟩
  walk_at "rd"
  have hk : ¬ Vablda.isKept D = true := by
   rw [je]; intro z
   obtain ⟨l, hl, e⟩ := List.any_eq_true.mp z
   obtain ⟨j, hj⟩ := List.mem_iff_getElem?.mp hl
   exact hno j l hj (by simpa using e)
  have q' := q _ hs
  rw [if_neg hk] at q'
  exact q'
end
end L2
namespace L2
open PySem PySem.Spec PyProof.Rows
def wK (b : Nat) : Nat := if b = 34 then 34 else if b = 92 then 92 else if b = 110 then 10 else if b = 116 then 9 else 256
def vd (T : List Nat) (n : Nat) : Nat := if (T[n]?).getD 256 = 120 then (if Vablda.hex ((T[n + 1]?).getD 256) = true /\ Vablda.hex ((T[n + 2]?).getD 256) = true then 16 * Vablda.hexValue ((T[n + 1]?).getD 256) + Vablda.hexValue ((T[n + 2]?).getD 256) else 256) else wK ((T[n]?).getD 256)
theorem xa (b : Nat) : (aZ iY (Sum.inl (b : Int))).getD (.int 256) = .int (wK b : Nat) := by
 unfold wK aZ iY
 by_cases h1 : b = 34
 ·subst h1; rfl
 by_cases h2 : b = 92
 ·subst h2; rfl
 by_cases h3 : b = 110
 ·subst h3; rfl
 by_cases h4 : b = 116
 ·subst h4; rfl
 rw [if_neg h1, if_neg h2, if_neg h3, if_neg h4]
 have n1 : ¬ ((34 : Int) = b) := by omega
 have n2 : ¬ ((92 : Int) = b) := by omega
 have n3 : ¬ ((110 : Int) = b) := by omega
 have n4 : ¬ ((116 : Int) = b) := by omega
 simp [List.find?, n1, n2, n3, n4]
theorem wy (T : List Nat) (n : Nat) : Vp.toldB (T.drop n) = if (T[n]?).getD 256 = 92 then vd T (n + 1) else if 32 <= (T[n]?).getD 256 /\ (T[n]?).getD 256 <= 126 then (T[n]?).getD 256 else 256 := by
 have g : ∀ j, T[n + j]? = (T.drop n)[j]? := fun j => by rw [List.getElem?_drop]
 unfold vd
 rw [show n + 1 + 1 = n + 2 from rfl, show n + 1 + 2 = n + 3 from rfl, g 1, g 2, g 3, show T[n]? = (T.drop n)[0]? from g 0]
 generalize T.drop n = r
 unfold Vp.toldB
 split
 ·rfl
 ·rfl
 ·rfl
 ·rfl
 ·rfl
 ·rename_i a b r
  simp
 ·rename_i c r n1 n2 n3 n4 n5
  simp only [List.getElem?_cons_zero, Option.getD_some]
  by_cases hc : c = 92
  ·subst hc
   rw [if_neg (by omega), if_pos rfl]
   cases r with
   | nil => rfl
   | cons d r =>
     simp only [List.getElem?_cons_succ, List.getElem?_cons_zero, Option.getD_some]
     have m1 : d ≠ 34 := fun e => n1 r rfl (by rw [e])
     have m2 : d ≠ 92 := fun e => n2 r rfl (by rw [e])
     have m3 : d ≠ 110 := fun e => n3 r rfl (by rw [e])
     have m4 : d ≠ 116 := fun e => n4 r rfl (by rw [e])
     by_cases hd : d = 120
     ·rw [if_pos hd]
      subst hd
      cases r with
      | nil => rfl
      | cons a r =>
        cases r with
        | nil => simp [Vablda.hex, Vablda.digit]
        | cons b r => exact absurd rfl (fun e => n5 a b r rfl e)
     ·rw [if_neg hd]; unfold wK
      rw [if_neg m1, if_neg m2, if_neg m3, if_neg m4]
  ·rw [if_neg hc]
   by_cases h : 32 <= c /\ c <= 126
   ·rw [if_pos ⟨h.1, h.2, hc⟩, if_pos h]
   ·rw [if_neg (fun z => h ⟨z.1, z.2.1⟩), if_neg h]
theorem rJ {T : List Nat} {n c : Nat} (h : T[n]? = some c) : Vp.toldW (T.drop n) = if c = 92 then (if T[n + 1]? = some 120 then 4 else 2) else 1 := by
 have g : ∀ j, T[n + j]? = (T.drop n)[j]? := fun j => by rw [List.getElem?_drop]
 rw [g 1]
 rw [show T[n]? = (T.drop n)[0]? from g 0] at h
 generalize T.drop n = r at *
 unfold Vp.toldW
 split
 ·simp at h; simp [<- h]
 ·rename_i r' n1
  simp at h; rw [if_pos h.symm]
  cases r' with
  | nil => rfl
  | cons d r' =>
    rw [if_neg]
    intro e
    simp at e
    exact n1 r' (by rw [e])
 ·rename_i n1 n2
  cases r with
  | nil => simp at h
  | cons d r =>
    simp at h
    rw [if_neg]
    intro e
    exact n2 r (by rw [<- e, <- h])
theorem oS {T : List Nat} {n m : Nat} (h : n <= T.length) : mS (bts T) (some (n : Int)) (some (m : Int)) = bts ((T.drop n).take (m - n)) := by
 unfold mS
 rw [HT.sIx_nat, HT.sIx_nat, bz, Nat.min_eq_left h]
 unfold bts
 rw [<- List.map_drop, <- List.map_take]
 by_cases hm : m <= T.length
 ·rw [Nat.min_eq_left hm]
 ·rw [Nat.min_eq_right (by omega), List.take_of_length_le (by rw [List.length_drop]; omega), List.take_of_length_le (by rw [List.length_drop]; omega)]
section
variable {P : Program} {w : World} {K : Frag} {mg : Str -> Option Value} {base : Heap} {A : Ad} {k : Nat}
def oh (K : Frag) (f : List Nat -> Nat -> Nat) (pre : List Nat -> Nat -> Prop) : Sp := sp2 fun a b H Q _ => ∃ (T : List Nat) (n : Nat), TextAt K H a T /\ b = .int n /\ pre T n /\ Q (.int (f T n : Nat)) H
abbrev du : Stmt := top 81
theorem cj : ai ["text", "at", "byte", "high", "low"] ["text", "at"] (ad du) := by walk_at "sc"
theorem lx (T : Txt P w K mg A) (F : Fd K mg "escaped_byte" du) (bu : Fn P w K mg base "byte_at" k ["text", "at"] (kb K)) (dQ : Fn P w K mg base "hex_worth" k ["byte"] xK)  : Fn P w K mg base "escaped_byte" (k + 1) ["text", "at"] (oh K vd fun _ _ => True) := by
 refine Fn.of2 F cj (fun _ _ _ _ _ _ _ _ => rfl) fun g cdv Ar outer s H a b Q E hr h => ⟨_, (a9 (aq (i := 2) (q_c bu hr ae (a8 (q_v 0) (a8 (q_v 1) aa))) cj.nd) (a9 (aE (b7 uJ (q_v 2) (q_g T.g_LETTER_X)) (ac (aj (x8 T.t_ESCAPES (q_g T.g_ESCAPES) (q_v 2) (q_g T.g_NO_BYTE)))) am) (a9 (aq (i := 3) (q_c dQ hr ae (a8 (q_c bu hr ae (a8 (q_v 0) (a8 (cq fZ (q_v 1) ap) aa))) aa)) cj.nd) (a9 (aq (i := 4) (q_c dQ hr ae (a8 (q_c bu hr ae (a8 (q_v 0) (a8 (cq fZ (q_v 1) ap) aa))) aa)) cj.nd) (a9 (aE (f6 (lh (b7 ve (q_v 3) mY) (gA (b7 ve (q_v 4) mY))).pt) (ac (aj (q_g T.g_NO_BYTE))) am) (ac (aj (cq fZ (cq ye (q_v 3) ap) (q_v 4))))))))), ?_⟩
 obtain ⟨T', n, hT, rfl, _, q⟩ := h
 walk_at "rd"
 refine ⟨T', n, hT, rfl, ?_⟩
 dsimp only
 unfold vd at q
 by_cases h1 : (T'[n]?).getD 256 = 120
 ·rw [if_neg (by omega)]
  rw [if_pos h1] at q
  refine ⟨T', n + 1, hT, by simp, _, rfl, T', n + 2, hT, by simp, _, rfl, ?_⟩
  by_cases h2 : Vablda.hex ((T'[n + 1]?).getD 256) = true
  ·by_cases h3 : Vablda.hex ((T'[n + 2]?).getD 256) = true
   ·rw [if_pos ⟨h2, h3⟩] at q
    simp only [h2, h3, if_true]
    have := Vp.hexValue_lt h2
    refine eS false (by walk_at "rd"; trivial) ?_
    walk_at "rd"
    refine ⟨⟨by omega, by omega⟩, ?_⟩
    have e : ((16 * Vablda.hexValue ((T'[n + 1]?).getD 256) + Vablda.hexValue ((T'[n + 2]?).getD 256) : Nat) : Int) = ((Vablda.hexValue ((T'[n + 1]?).getD 256) : Nat) : Int) * 16 + ((Vablda.hexValue ((T'[n + 2]?).getD 256) : Nat) : Int) := by omega
    rw [<- e]; exact q
   ·rw [if_neg (fun z => h3 z.2)] at q
    simp only [h2, h3, if_true, if_false, Bool.false_eq_true]
    exact eS true (by walk_at "rd"; trivial) (bU q)
  ·rw [if_neg (fun z => h2 z.1)] at q
   simp only [h2, if_false, if_true, Bool.false_eq_true]
   exact eS true (by walk_at "rd"; trivial) (bU q)
 ·rw [if_pos (by omega)]
  rw [if_neg h1] at q
  rw [xa]; exact q
abbrev gJ : Stmt := top 80
theorem jR : ai ["text", "at", "byte"] ["text", "at"] (ad gJ) := by walk_at "sc"
theorem oP (T : Txt P w K mg A) (F : Fd K mg "told_byte" gJ) (bu : Fn P w K mg base "byte_at" k ["text", "at"] (kb K)) (dv : Fn P w K mg base "escaped_byte" k ["text", "at"] (oh K vd fun _ _ => True))  : Fn P w K mg base "told_byte" (k + 1) ["text", "at"] (oh K (fun T n => Vp.toldB (T.drop n)) fun _ _ => True) := by
 refine Fn.of2 F jR (fun _ _ _ _ _ _ _ _ => rfl) fun g cdv Ar outer s H a b Q E hr h => ⟨_, (a9 (aq (i := 2) (q_c bu hr ae (a8 (q_v 0) (a8 (q_v 1) aa))) jR.nd) (a9 (aE (b7 bP (q_v 2) (q_g T.g_BACKSLASH)) (ac (aj (q_c dv hr ae (a8 (q_v 0) (a8 (cq fZ (q_v 1) ap) aa))))) am) (a9 (aE (yh nO nO ap (q_v 2) ap) (ac (aj (q_v 2))) am) (ac (aj (q_g T.g_NO_BYTE)))))), ?_⟩
 obtain ⟨T', n, hT, rfl, _, q⟩ := h
 dsimp only at q
 rw [wy] at q
 walk_at "rd"
 refine ⟨T', n, hT, rfl, ?_⟩
 dsimp only
 by_cases h1 : (T'[n]?).getD 256 = 92
 ·rw [if_pos (by omega)]
  rw [if_pos h1] at q
  exact ⟨T', n + 1, hT, by simp, trivial, q⟩
 ·rw [if_neg (by omega)]
  rw [if_neg h1] at q
  by_cases h2 : 32 <= (T'[n]?).getD 256 /\ (T'[n]?).getD 256 <= 126
  ·rw [if_pos h2] at q
   rw [if_pos (by omega), if_pos (by omega)]
   exact q
  ·rw [if_neg h2] at q
   split
   ·rw [if_neg (by omega)]; exact q
   ·exact q
abbrev fQ : Stmt := top 83
theorem nL : ai ["text", "at"] ["text", "at"] (ad fQ) := by walk_at "sc"
theorem nT (T : Txt P w K mg A) (F : Fd K mg "told_width" fQ)   : Fn P w K mg base "told_width" (k + 1) ["text", "at"] (oh K (fun T n => Vp.toldW (T.drop n)) fun T n => ∃ c, T[n]? = some c /\ (c = 92 -> n + 1 < T.length)) := by
 refine Fn.of2 F nL (fun _ _ _ _ _ _ _ _ => rfl) fun g cdv Ar outer s H a b Q E hr h => ⟨_, (a9 (aE (b7 uJ (eX (q_v 0) (q_v 1)) (q_g T.g_BACKSLASH)) (ac (aj ap)) am) (a9 (aE (b7 bP (eX (q_v 0) (cq fZ (q_v 1) ap)) (q_g T.g_LETTER_X)) (ac (aj ap)) am) (ac (aj ap)))), ?_⟩
 obtain ⟨T', n, ⟨p, rfl, hp⟩, rfl, ⟨c, hc, h92⟩, q⟩ := h
 dsimp only at q
 rw [rJ hc] at q
 walk_at "rd"
 refine ⟨_, _, hp, dH hc, ?_⟩
 dsimp only
 by_cases h1 : c = 92
 ·rw [if_neg (by omega)]
  rw [if_pos h1] at q
  have hl := h92 h1
  obtain ⟨d, hd⟩ : ∃ d, T'[n + 1]? = some d := ⟨T'[n + 1], List.getElem?_eq_getElem hl⟩
  refine ⟨_, _, hp, (by have := dH hd; simpa using this), ?_⟩
  dsimp only
  rw [hd] at q
  by_cases h2 : d = 120
  ·rw [if_pos (by rw [h2])] at q
   rw [if_pos (by omega)]; exact q
  ·rw [if_neg (fun z => h2 (by simpa using z))] at q
   rw [if_neg (by omega)]; exact q
 ·rw [if_pos (by omega)]
  rw [if_neg h1] at q
  exact q
end
end L2
namespace L2
open PySem PySem.Spec PyProof.Rows
section
variable {P : Program} {w : World} {K : Frag} {mg : Str -> Option Value} {base : Heap} {A : Ad} {k : Nat}
def iE (K : Frag) (C R : Addr) (pre : Nat -> Prop) : Sp := sp2 fun a b H Q E => ∃ (T : List Nat) (n c : Nat), TextAt K H a T /\ b = .int n /\ T[n]? = some c /\ T.length <= 4096 /\ pre c /\
 (match Vp.stepT T n with | .ok (t, m) => (∀ v H', Same H H' -> TokAt (fun x => H x = none) C H' v t m -> Q v H') | .error e => Fl K R E e.kind e.place)
theorem ir {T : List Nat} {n c : Nat} (h : T[n]? = some c) : ∃ r, T.drop n = c :: r := by
 obtain ⟨h1, h2⟩ := List.getElem?_eq_some_iff.mp h
 exact ⟨T.drop (n + 1), by rw [<- h2]; exact (List.getElem_cons_drop ..).symm⟩
theorem vr (c : Nat) : Vablda.inner c = (Vablda.letter c || Vablda.digit c) := rfl
abbrev iH : Stmt := top 74
theorem i6 : ai ["text", "place", "after"] ["text", "place"] (ad iH) := by walk_at "sc"
theorem qH (T : Txt P w K mg A) (F : Fd K mg "word_end" iH) (cp : Fn P w K mg base "is_letter" k ["byte"] (fJ Vablda.letter)) (ba : Fn P w K mg base "is_digit" k ["byte"] (fJ Vablda.digit))  : Fn P w K mg base "word_end" (k + 1) ["text", "place"] (sp2 fun a b H Q _ => ∃ (T : List Nat) (n : Nat), TextAt K H a T /\ b = .int n /\ n <= T.length /\ Q (.int ((n + ((T.drop n).takeWhile Vablda.inner).length : Nat) : Int)) H) := by
 refine Fn.of2 F i6 (fun _ _ _ _ _ _ _ _ => rfl) fun g cdv Ar outer s H a b Q E hr h => ⟨_, (a9 (aq (i := 2) (q_v 1) i6.nd) (a9 (bp (bv PassesOwn.leaving (f6 (mf (b7 uX (q_v 2) (cy (x := "len") T.b_len (q_v 0))) (jX (f6 (lh (c6 (q_c cp hr ae (a8 (eX (q_v 0) (q_v 2)) aa))) (gA (c6 (q_c ba hr ae (a8 (eX (q_v 0) (q_v 2)) aa))))).pt))).pt) (ac (qP (i := 2) jt ap i6.nd rfl (Or.inl rfl))))) (ac (aj (q_v 2))))), ?_⟩
 obtain ⟨T', n, ⟨p, rfl, hp⟩, rfl, hn, q⟩ := h
 have hle := (List.takeWhile_prefix (p := Vablda.inner) (l := T'.drop n)).length_le
 rw [List.length_drop] at hle
 generalize hL : ((T'.drop n).takeWhile Vablda.inner).length = L at *
 walk_at "rd"
 refine bo (fun σ H' => H' = H /\ σ = [some (.ref p), some (.int n), some (.int ((n + L : Nat) : Int))])
  (Exists.intro (fun m σ H' => ∃ j : Nat, σ = [some (.ref p), some (.int n), some (.int j)] /\ H' = H /\ m = T'.length - j /\ n <= j /\ j <= n + L) ⟨⟨T'.length - n, n, rfl, rfl, rfl, by omega, by omega⟩, ?_⟩) ?_
 ·rintro m σ _ ⟨j, rfl, rfl, rfl, h1, h2⟩
  have sc := Vp.scan Vablda.inner T' n j h1 (by omega)
  rw [hL] at sc
  refine eS (decide (j < n + L)) ?_ ?_
  ·walk_at "rd"
   refine ⟨_, hp, ?_⟩
   rw [bz]
   by_cases hj : j < T'.length
   ·rw [if_pos (by omega)]
    obtain ⟨c, hc⟩ : ∃ c, T'[j]? = some c := ⟨T'[j], List.getElem?_eq_getElem hj⟩
    have hin : Vablda.inner c = decide (j < n + L) := by
     by_cases e : j < n + L
     ·obtain ⟨c', e1, e2⟩ := sc.mpr e
      rw [hc] at e1; cases e1; rw [e2, decide_eq_true e]
     ·rw [decide_eq_false e]
      cases e2 : Vablda.inner c with
      | false => rfl
      | true => exact absurd (sc.mp ⟨c, hc, e2⟩) e
    refine eS (Vablda.inner c) ?_ ⟨hin, by trivial⟩
    walk_at "rd"
    refine ⟨_, _, hp, dH hc, c, rfl, ?_⟩
    rw [vr]
    cases hlc : Vablda.letter c with
    | true => exact ⟨rfl, rfl⟩
    | false => exact ⟨_, _, hp, dH hc, c, rfl, rfl, rfl⟩
   ·rw [if_neg (by omega)]
    have e : ¬ (j < n + L) := by
     rw [<- sc]; rintro ⟨c', e1, e2⟩; rw [List.getElem?_eq_none (by omega)] at e1; cases e1
    exact ⟨(decide_eq_false e).symm, by trivial⟩
  ·by_cases e : j < n + L
   ·rw [decide_eq_true e]
    walk_at "rd"
    exact ⟨_, fun _ _ h => h, T'.length - (j + 1), by omega, j + 1, rfl, rfl, rfl, by omega, by omega⟩
   ·rw [decide_eq_false e]
    walk_at "rd"
    obtain rfl : j = n + L := by omega
    exact ⟨by trivial, by trivial⟩
 ·rintro σ H ⟨rfl, rfl⟩
  walk_at "rd"
  exact q
abbrev kF : Stmt := top 73
theorem fA : ai ["text", "place", "after", "data", "kept"] ["text", "place"] (ad kF) := by walk_at "sc"
theorem rX (T : Txt P w K mg A) (F : Fd K mg "word_at" kF) (jh : Fn P w K mg base "word_end" k ["text", "place"] (sp2 fun a b H Q _ => ∃ (T : List Nat) (n : Nat), TextAt K H a T /\ b = .int n /\ n <= T.length /\ Q (.int ((n + ((T.drop n).takeWhile Vablda.inner).length : Nat) : Int)) H)) (aR : Rz P w K mg base "TokenFault" A.R k 2) (i7 : Fn P w K mg base "kept_word" k ["data"] (vw K)) (bi : Mkf P w K mg base "Token" A.tok k 4 oX)  : Fn P w K mg base "word_at" (k + 1) ["text", "place"] (iE K A.tok A.R fun c => Vablda.letter c = true) := by
 refine Fn.of2 F fA (fun _ _ _ _ _ _ _ _ => rfl) fun g cdv Ar outer s H a b Q E hr h => ⟨_, (a9 (aq (i := 2) (q_c jh hr ae (a8 (q_v 0) (a8 (q_v 1) aa))) fA.nd) (a9 (aE (b7 qU (cq rg (q_v 2) (q_v 1)) (q_g T.g_MOST_IN_WORD)) (ac (mG aR hr bc (q_v 1))) am) (a9 (aq (i := 3) (ie kh (q_v 0) (dU (q_v 1)) (dU (q_v 2))) fA.nd) (a9 (aq (i := 4) (q_c i7 hr ae (a8 (q_v 3) aa)) fA.nd) (a9 (aE (b7 ve (q_v 4) mY) (ac (aj (iC bi hr ae (a8 aw (a8 (q_v 1) (a8 (q_v 2) (a8 (q_v 3) aa))))))) am) (ac (aj (iC bi hr ae (a8 (q_v 4) (a8 (q_v 1) (a8 (q_v 2) (a8 (aJ aa) aa)))))))))))), ?_⟩
 obtain ⟨T', n, c0, ⟨p, rfl, hp⟩, rfl, hc0, hl, hpre, q⟩ := h
 obtain ⟨r0, hr0⟩ := ir hc0
 have hn : n < T'.length := (List.getElem?_eq_some_iff.mp hc0).1
 have hle := (List.takeWhile_prefix (p := Vablda.inner) (l := T'.drop n)).length_le
 rw [List.length_drop] at hle
 unfold Vp.stepT at q
 rw [hr0] at q
 simp only [hpre, if_true] at q
 rw [<- hr0] at q
 walk_at "rd"
 refine ⟨T', n, ⟨p, rfl, hp⟩, rfl, by omega, ?_⟩
 generalize hL : ((T'.drop n).takeWhile Vablda.inner).length = L at *
 by_cases h32 : 32 < L
 ·rw [if_pos (by omega)]
  rw [if_pos h32] at q
  exact q
 ·rw [if_neg (by omega)]
  rw [if_neg h32] at q
  refine ⟨_, rfl, _, rfl, _, _, rfl, hp, fun d hd => ?_⟩
  rw [oS (by omega), show n + L - n = L by omega, <- hL, Vp.take_takeWhile]
  rw [<- hL] at h32 q
  generalize hD : (T'.drop n).takeWhile Vablda.inner = D at *
  have hs1 : Same H (upd H d (.lst (bts D))) := Same.upd hd
  refine ⟨D, ⟨d, rfl, .inl (.inl af)⟩, by omega, fun H2 hs2 => ?_⟩
  have hd2 : H2 d = some (.lst (bts D)) := hs2 _ _ af
  by_cases hk : Vablda.isKept D = true
  ·simp only [hk, if_true] at q ⊢
   refine ⟨by decide, fun e he => ⟨by trivial, fun a dx ha hdx hne => ?_⟩⟩
   have hs3 : Same H2 (upd H2 e (.lst [])) := Same.upd he
   refine q _ _ (bI ((hs1.trans hs2).trans hs3) ha hdx) (dy (t := ⟨2, D, n⟩) (m := n + D.length) ((hs1.trans hs2).trans hs3) ha hdx ((hs1.trans hs2).free he) af ?_ rfl)
   show (⟨D.toArray⟩ : Str) = if D = [37] then _ else _
   rw [if_neg]
   intro e; rw [e] at hk; exact absurd hk (by decide)
  ·simp only [hk, if_false, Bool.false_eq_true] at q ⊢
   refine ⟨by trivial, fun a dx ha hdx hne => ?_⟩
   exact q _ _ (bI (hs1.trans hs2) ha hdx) (dy (t := ⟨1, D, n⟩) (m := n + D.length) (hs1.trans hs2) ha hdx hd hd2 rfl rfl)
end
end L2
namespace L2
open PySem PySem.Spec PyProof.Rows
theorem iB {α : Type} {p : α -> Bool} : ∀ {l : List α} {x : α}, x ∈ l.takeWhile p -> p x = true
 | [], x, h => by simp at h
 | a :: l, x, h => by
   by_cases pa : p a = true
   ·rw [List.takeWhile_cons_of_pos pa] at h
    rcases List.mem_cons.mp h with rfl | h
    ·exact pa
    ·exact iB h
   ·rw [List.takeWhile_cons_of_neg pa] at h; simp at h
section
variable {P : Program} {w : World} {K : Frag} {mg : Str -> Option Value} {base : Heap} {A : Ad} {k : Nat}
abbrev gu : Stmt := top 76
theorem db : ai ["text", "place", "after", "data"] ["text", "place"] (ad gu) := by walk_at "sc"
theorem pd (T : Txt P w K mg A) (F : Fd K mg "number_at" gu) (ba : Fn P w K mg base "is_digit" k ["byte"] (fJ Vablda.digit)) (ju : Fn P w K mg base "worth_of" k ["digits"] (tW K)) (aR : Rz P w K mg base "TokenFault" A.R k 2) (bi : Mkf P w K mg base "Token" A.tok k 4 oX)  : Fn P w K mg base "number_at" (k + 1) ["text", "place"] (iE K A.tok A.R fun c => Vablda.letter c = false /\ Vablda.digit c = true) := by
 refine Fn.of2 F db (fun _ _ _ _ _ _ _ _ => rfl) fun g cdv Ar outer s H a b Q E hr h => ⟨_, (a9 (aq (i := 2) (q_v 1) db.nd) (a9 (bp (bv PassesOwn.leaving (f6 (mf (b7 uX (q_v 2) (cy (x := "len") T.b_len (q_v 0))) (jX (c6 (q_c ba hr ae (a8 (eX (q_v 0) (q_v 2)) aa))))).pt) (ac (qP (i := 2) jt ap db.nd rfl (Or.inl rfl))))) (a9 (aq (i := 3) (ie kh (q_v 0) (dU (q_v 1)) (dU (q_v 2))) db.nd) (a9 (aE (f6 (lh (b7 qU (cy (x := "len") T.b_len (q_v 3)) (q_g T.g_MOST_DIGITS)) (gA (b7 qU (q_c ju hr ae (a8 (q_v 3) aa)) (q_g T.g_MOST_WORTH)))).pt) (ac (mG aR hr bc (q_v 1))) am) (a9 (aE (f6 (mf (b7 bP (eX (q_v 3) ap) (q_g T.g_ZERO)) (jX (b7 qU (cy (x := "len") T.b_len (q_v 3)) ap))).pt) (ac (mG aR hr bc (q_v 1))) am) (ac (aj (iC bi hr ae (a8 aw (a8 (q_v 1) (a8 (q_v 2) (a8 (q_v 3) aa)))))))))))), ?_⟩
 obtain ⟨T', n, c0, ⟨p, rfl, hp⟩, rfl, hc0, hl, ⟨hnl, hpre⟩, q⟩ := h
 obtain ⟨r0, hr0⟩ := ir hc0
 have hn : n < T'.length := (List.getElem?_eq_some_iff.mp hc0).1
 have hle := (List.takeWhile_prefix (p := Vablda.digit) (l := T'.drop n)).length_le
 rw [List.length_drop] at hle
 have hpos : ((T'.drop n).takeWhile Vablda.digit).head? = some c0 := by rw [hr0, List.takeWhile_cons_of_pos hpre]; rfl
 unfold Vp.stepT at q
 rw [hr0] at q
 simp only [hnl, hpre, if_true, Bool.false_eq_true, if_false] at q
 rw [<- hr0] at q
 generalize hL : ((T'.drop n).takeWhile Vablda.digit).length = L at *
 walk_at "rd"
 refine bo (fun σ H' => H' = H /\ σ = [some (.ref p), some (.int n), some (.int ((n + L : Nat) : Int)), none])
  (Exists.intro (fun m σ H' => ∃ j : Nat, σ = [some (.ref p), some (.int n), some (.int j), none] /\ H' = H /\ m = T'.length - j /\ n <= j /\ j <= n + L) ⟨⟨T'.length - n, n, rfl, rfl, rfl, by omega, by omega⟩, ?_⟩) ?_
 ·rintro m σ _ ⟨j, rfl, rfl, rfl, h1, h2⟩
  have sc := Vp.scan Vablda.digit T' n j h1 (by omega)
  rw [hL] at sc
  refine eS (decide (j < n + L)) ?_ ?_
  ·walk_at "rd"
   refine ⟨_, hp, ?_⟩
   rw [bz]
   by_cases hj : j < T'.length
   ·rw [if_pos (by omega)]
    obtain ⟨c, hc⟩ : ∃ c, T'[j]? = some c := ⟨T'[j], List.getElem?_eq_getElem hj⟩
    have hin : Vablda.digit c = decide (j < n + L) := by
     by_cases e : j < n + L
     ·obtain ⟨c', e1, e2⟩ := sc.mpr e
      rw [hc] at e1; cases e1; rw [e2, decide_eq_true e]
     ·rw [decide_eq_false e]
      cases e2 : Vablda.digit c with
      | false => rfl
      | true => exact absurd (sc.mp ⟨c, hc, e2⟩) e
    exact ⟨_, _, hp, dH hc, c, rfl, hin, by trivial⟩
   ·rw [if_neg (by omega)]
    have e : ¬ (j < n + L) := by
     rw [<- sc]; rintro ⟨c', e1, e2⟩; rw [List.getElem?_eq_none (by omega)] at e1; cases e1
    exact ⟨(decide_eq_false e).symm, by trivial⟩
  ·by_cases e : j < n + L
   ·rw [decide_eq_true e]
    walk_at "rd"
    exact ⟨_, fun _ _ h => h, T'.length - (j + 1), by omega, j + 1, rfl, rfl, rfl, by omega, by omega⟩
   ·rw [decide_eq_false e]
    walk_at "rd"
    obtain rfl : j = n + L := by omega
    exact ⟨by trivial, by trivial⟩
 ·rintro σ H ⟨rfl, rfl⟩
  walk_at "rd"
  refine ⟨_, rfl, _, rfl, _, _, rfl, hp, fun d hd => ?_⟩
  rw [oS (by omega), show n + L - n = L by omega, <- hL, Vp.take_takeWhile]
  rw [<- hL] at q
  have hdig : ∀ c ∈ (T'.drop n).takeWhile Vablda.digit, Vablda.digit c = true := fun c => iB
  generalize hD : (T'.drop n).takeWhile Vablda.digit = D at *
  have hs1 : Same H (upd H d (.lst (bts D))) := Same.upd hd
  have hd1 : SqL K (upd H d (.lst (bts D))) d (bts D) := .inl (.inl af)
  refine eS (decide (19 < D.length) || decide (1000000000000000000 < Vablda.valueOf D)) ?_ ?_
  ·walk_at "rd"
   refine ⟨_, hd1, ?_⟩
   rw [bz]
   by_cases h19 : 19 < D.length
   ·rw [if_pos (by omega), decide_eq_true h19]; exact ⟨rfl, by trivial⟩
   ·rw [if_neg (by omega), decide_eq_false h19]
    refine ⟨D, ⟨d, rfl, hd1⟩, by omega, hdig, ?_, by trivial⟩
    rw [Bool.false_or]
    exact decide_eq_decide.mpr (by omega)
  ·unfold Vablda.goodNumber at q
   rw [hpos] at q
   by_cases h19 : 19 < D.length
   ·rw [decide_eq_true h19, Bool.true_or, if_pos rfl]
    rw [if_neg (by simp; omega)] at q
    exact q
   ·rw [decide_eq_false h19, Bool.false_or]
    by_cases hv : 1000000000000000000 < Vablda.valueOf D
    ·rw [decide_eq_true hv, if_pos rfl]
     rw [if_neg (by simp; omega)] at q
     exact q
    ·rw [decide_eq_false hv, if_neg (by decide)]
     have hD0 : D[0]? = some c0 := by rw [<- hpos]; exact List.head?_eq_getElem?.symm
     refine eS (decide (c0 = 48) && decide (1 < D.length)) ?_ ?_
     ·walk_at "rd"
      refine ⟨_, _, hd1, c7 (j := 0) rfl (by rw [oV, hD0]; rfl), ?_⟩
      dsimp only
      by_cases h48 : c0 = 48
      ·rw [if_pos (by omega), decide_eq_true h48]
       refine ⟨_, hd1, ?_, by trivial⟩
       rw [bz, Bool.true_and]
       exact decide_eq_decide.mpr (by omega)
      ·rw [if_neg (by omega), decide_eq_false h48]; exact ⟨rfl, by trivial⟩
     ·by_cases hbad : c0 = 48 /\ 1 < D.length
      ·rw [decide_eq_true hbad.1, decide_eq_true hbad.2, if_pos (by decide)]
       rw [if_neg (by simp [hbad.1]; omega)] at q
       exact q
      ·rw [if_neg (by simp; omega)]
       have hlen : 0 < D.length := (List.getElem?_eq_some_iff.mp hD0).1
       rw [if_pos (by simp; omega)] at q
       refine ⟨by trivial, fun a dx ha hdx hne => ?_⟩
       exact q _ _ (bI hs1 ha hdx) (dy (t := ⟨3, D, n⟩) (m := n + D.length) hs1 ha hdx hd af rfl rfl)
end
end L2
namespace L2
open PySem PySem.Spec PyProof.Rows
section
variable {P : Program} {w : World} {K : Frag} {mg : Str -> Option Value} {base : Heap} {A : Ad} {k : Nat}
theorem uq {T : List Nat} {i : Nat} : (T.drop i).head? = T[i]? := by rw [List.head?_eq_getElem?, List.getElem?_drop]; rfl
abbrev hZ : Stmt := top 78
theorem cv : ai ["text", "place", "data", "at", "told"] ["text", "place"] (ad hZ) := by walk_at "sc"
theorem oZ (T : Txt P w K mg A) (F : Fd K mg "quoted_at" hZ) (bu : Fn P w K mg base "byte_at" k ["text", "at"] (kb K)) (il : Fn P w K mg base "told_byte" k ["text", "at"] (oh K (fun T n => Vp.toldB (T.drop n)) fun _ _ => True)) (fe : Fn P w K mg base "told_width" k ["text", "at"] (oh K (fun T n => Vp.toldW (T.drop n)) fun T n => ∃ c, T[n]? = some c /\ (c = 92 -> n + 1 < T.length))) (aR : Rz P w K mg base "TokenFault" A.R k 2) (bi : Mkf P w K mg base "Token" A.tok k 4 oX)  : Fn P w K mg base "quoted_at" (k + 1) ["text", "place"] (iE K A.tok A.R fun c => c = 34) := by
 refine Fn.of2 F cv (fun _ _ _ _ _ _ _ _ => rfl) fun g cdv Ar outer s H a b Q E hr h => ⟨_, (a9 (aq (i := 2) (aJ aa) cv.nd) (a9 (aq (i := 3) (cq fZ (q_v 1) ap) cv.nd) (a9 (bp (bv PassesOwn.leaving (b7 uJ (q_c bu hr ae (a8 (q_v 0) (a8 (q_v 3) aa))) (q_g T.g_QUOTE)) (a9 (aq (i := 4) (q_c il hr ae (a8 (q_v 0) (a8 (q_v 3) aa))) cv.nd) (a9 (aE (f6 (lh (b7 bP (q_v 4) (q_g T.g_NO_BYTE)) (gA (b7 bP (cy (x := "len") T.b_len (q_v 2)) (q_g T.g_MOST_TOLD)))).pt) (ac (mG aR hr bc (q_v 1))) am) (a9 (aA (cD (q_v 2) (q_v 4))) (ac (qP (i := 3) jt (q_c fe hr ae (a8 (q_v 0) (a8 (q_v 3) aa))) cv.nd rfl (Or.inl rfl)))))))) (ac (aj (iC bi hr ae (a8 aw (a8 (q_v 1) (a8 (cq fZ (q_v 3) ap) (a8 (q_v 2) aa)))))))))), ?_⟩
 obtain ⟨T', n, c0, ⟨p, rfl, hp⟩, rfl, hc0, hl, hpre, q⟩ := h
 subst hpre
 obtain ⟨r0, hr0⟩ := ir hc0
 have hn : n < T'.length := (List.getElem?_eq_some_iff.mp hc0).1
 have hr1 : T'.drop (n + 1) = r0 := by rw [<- List.drop_drop, hr0]; rfl
 unfold Vp.stepT at q
 rw [hr0] at q
 simp only [show Vablda.letter 34 = false from rfl, show Vablda.digit 34 = false from rfl, if_true, Bool.false_eq_true, if_false] at q
 rw [<- hr1] at q
 walk_at "rd"
 refine ⟨by decide, fun d hd => ?_⟩
 refine bo (fun σ H' => ∃ (i : Nat) (D : List Nat) (x : Option V), σ = [some (.ref p), some (.int n), some (.ref d), some (.int i), x] /\ Same H H' /\ H' d = some (.lst (bts D)) /\ i < T'.length /\ D.length <= 1024 /\ Vablda.quoted (T'.drop (n + 1)) = some (D, T'.drop (i + 1)))
  (Exists.intro (fun m σ H' => ∃ (i : Nat) (D : List Nat) (x : Option V), σ = [some (.ref p), some (.int n), some (.ref d), some (.int i), x] /\ Same H H' /\ H' d = some (.lst (bts D)) /\ m = T'.length - i /\ i <= T'.length /\ D.length <= 1024 /\
   Vablda.quoted (T'.drop (n + 1)) = (Vablda.quoted (T'.drop i)).map fun x => (D ++ x.1, x.2)) ⟨⟨T'.length - (n + 1), n + 1, [], none, by simp, Same.upd hd, af, rfl, by omega, by decide, by simp⟩, ?_⟩) ?_
 ·rintro m σ H' ⟨i, D, x, rfl, hs, hD, rfl, hi, hDl, hq⟩
  walk_at "rd"
  refine ⟨T', i, ⟨p, rfl, hs.seq hp⟩, rfl, ?_⟩
  dsimp only
  by_cases h34 : (T'[i]?).getD 256 = 34
  ·have hi2 : T'[i]? = some 34 := by
    cases e : T'[i]? with
    | none => rw [e] at h34; exact absurd h34 (by decide)
    | some c => rw [e] at h34; simp at h34; rw [h34]
   rw [if_neg (by omega)]
   obtain ⟨r, hr⟩ := ir hi2
   have hr' : T'.drop (i + 1) = r := by rw [<- List.drop_drop, hr]; rfl
   refine ⟨i, D, x, by trivial, hs, hD, (List.getElem?_eq_some_iff.mp hi2).1, hDl, ?_⟩
   rw [hq, hr, Vp.quoted_end, hr']
   simp
  ·rw [if_pos (by omega)]
   have hh : (T'.drop i).head? ≠ some 34 := by
    rw [uq]; intro e; rw [e] at h34; exact h34 rfl
   refine ⟨_, fun _ _ h => h, T', i, ⟨p, rfl, hs.seq hp⟩, rfl, trivial, ?_⟩
   refine eS (decide (Vp.toldB (T'.drop i) = 256) || decide (D.length = 1024)) ?_ ?_
   ·walk_at "rd"
    by_cases h256 : Vp.toldB (T'.drop i) = 256
    ·rw [if_pos (by omega), decide_eq_true h256]; exact ⟨rfl, by trivial⟩
    ·rw [if_neg (by omega), decide_eq_false h256, Bool.false_or]
     refine ⟨_, .inl (.inl hD), ?_, by trivial⟩
     rw [bz]
     exact decide_eq_decide.mpr (by omega)
   ·by_cases h256 : Vp.toldB (T'.drop i) = 256
    ·rw [decide_eq_true h256, Bool.true_or, if_pos rfl]
     rw [hq, Vp.told_no hh h256] at q
     exact q
    ·obtain ⟨e1, e2, e3⟩ := Vp.told_ok hh h256
     rw [List.length_drop] at e2
     rw [decide_eq_false h256, Bool.false_or]
     by_cases hf : D.length = 1024
     ·rw [decide_eq_true hf, if_pos rfl]
      rw [hq, e1] at q
      cases e : Vablda.quoted ((T'.drop i).drop (Vp.toldW (T'.drop i))) with
      | none => rw [e] at q; exact q
      | some y =>
        rw [e] at q
        simp only [Option.map_some] at q
        rw [if_pos (by rw [List.length_append, List.length_cons]; omega)] at q
        exact q
     ·rw [decide_eq_false hf, if_neg (by decide)]
      have hi3 : i < T'.length := by omega
      obtain ⟨c, hc⟩ : ∃ c, T'[i]? = some c := ⟨T'[i], List.getElem?_eq_getElem hi3⟩
      walk_at "rd"
      refine ⟨⟨_, hD⟩, _, hD, ?_, T', i, ⟨p, rfl, (hs.upd2 hd).seq hp⟩, rfl, ⟨c, hc, fun e92 => ?_⟩, ?_⟩
      ·rw [bz, sizeLine_eq]; omega
      ·have wd := rJ hc
       rw [if_pos e92] at wd
       split at wd <;> omega
      ·refine ⟨T'.length - (i + Vp.toldW (T'.drop i)), by omega, i + Vp.toldW (T'.drop i), D ++ [Vp.toldB (T'.drop i)], _, rfl, hs.upd2 hd, ?_, rfl, by omega, by simp; omega, ?_⟩
       ·rw [af]; unfold bts; rw [List.map_append]; rfl
       ·rw [hq, e1, List.drop_drop]
        cases Vablda.quoted (T'.drop (i + Vp.toldW (T'.drop i))) <;> simp
 ·rintro σ H' ⟨i, D, x, rfl, hs, hD, hi, hDl, hq⟩
  rw [hq] at q
  simp only [if_neg (show ¬ 1024 < D.length by omega), List.length_drop] at q
  walk_at "rd"
  refine ⟨by trivial, fun a dx ha hdx hne => ?_⟩
  have e : T'.length - (T'.length - (i + 1)) = i + 1 := by omega
  rw [e] at q
  exact q _ _ (bI hs ha hdx) (dy (t := ⟨4, D, n⟩) (m := i + 1) hs ha hdx hd hD rfl rfl)
end
end L2
namespace L2
open PySem PySem.Spec PyProof.Rows
theorem uB (c : Nat) : aZ dq (Sum.inl (c : Int)) = if Vablda.isIn Vablda.signs1 [c] = true then some (.str (b9 ⟨5, [c], 0⟩)) else none := by
 by_cases h61 : c = 61
 ·subst h61; rfl
 by_cases h60 : c = 60
 ·subst h60; rfl
 by_cases h43 : c = 43
 ·subst h43; rfl
 by_cases h45 : c = 45
 ·subst h45; rfl
 by_cases h42 : c = 42
 ·subst h42; rfl
 by_cases h47 : c = 47
 ·subst h47; rfl
 by_cases h37 : c = 37
 ·subst h37; rfl
 by_cases h40 : c = 40
 ·subst h40; rfl
 by_cases h41 : c = 41
 ·subst h41; rfl
 by_cases h91 : c = 91
 ·subst h91; rfl
 by_cases h93 : c = 93
 ·subst h93; rfl
 by_cases h123 : c = 123
 ·subst h123; rfl
 by_cases h125 : c = 125
 ·subst h125; rfl
 by_cases h44 : c = 44
 ·subst h44; rfl
 by_cases h59 : c = 59
 ·subst h59; rfl
 by_cases h58 : c = 58
 ·subst h58; rfl
 by_cases h46 : c = 46
 ·subst h46; rfl
 have n61 : ¬ ((61 : Int) = c) := by omega
 have m61 : ¬ (61 = c) := by omega
 have n60 : ¬ ((60 : Int) = c) := by omega
 have m60 : ¬ (60 = c) := by omega
 have n43 : ¬ ((43 : Int) = c) := by omega
 have m43 : ¬ (43 = c) := by omega
 have n45 : ¬ ((45 : Int) = c) := by omega
 have m45 : ¬ (45 = c) := by omega
 have n42 : ¬ ((42 : Int) = c) := by omega
 have m42 : ¬ (42 = c) := by omega
 have n47 : ¬ ((47 : Int) = c) := by omega
 have m47 : ¬ (47 = c) := by omega
 have n37 : ¬ ((37 : Int) = c) := by omega
 have m37 : ¬ (37 = c) := by omega
 have n40 : ¬ ((40 : Int) = c) := by omega
 have m40 : ¬ (40 = c) := by omega
 have n41 : ¬ ((41 : Int) = c) := by omega
 have m41 : ¬ (41 = c) := by omega
 have n91 : ¬ ((91 : Int) = c) := by omega
 have m91 : ¬ (91 = c) := by omega
 have n93 : ¬ ((93 : Int) = c) := by omega
 have m93 : ¬ (93 = c) := by omega
 have n123 : ¬ ((123 : Int) = c) := by omega
 have m123 : ¬ (123 = c) := by omega
 have n125 : ¬ ((125 : Int) = c) := by omega
 have m125 : ¬ (125 = c) := by omega
 have n44 : ¬ ((44 : Int) = c) := by omega
 have m44 : ¬ (44 = c) := by omega
 have n59 : ¬ ((59 : Int) = c) := by omega
 have m59 : ¬ (59 = c) := by omega
 have n58 : ¬ ((58 : Int) = c) := by omega
 have m58 : ¬ (58 = c) := by omega
 have n46 : ¬ ((46 : Int) = c) := by omega
 have m46 : ¬ (46 = c) := by omega
 have e : Vablda.isIn Vablda.signs1 [c] = false := by
  simp [Vablda.isIn, Vablda.signs1, Vablda.str, m61, m60, m43, m45, m42, m47, m37, m40, m41, m91, m93, m123, m125, m44, m59, m58, m46]
 rw [e, if_neg (by decide)]
 unfold aZ dq
 simp [List.find?, n61, n60, n43, n45, n42, n47, n37, n40, n41, n91, n93, n123, n125, n44, n59, n58, n46]
def gg (l : List Nat) : List Key := l.map fun (n : Nat) => Sum.inl (n : Int)
theorem vB (l : List Nat) : (gg l).map kV = bts l := by unfold gg bts; rw [List.map_map]; rfl
theorem mZ : ∀ {l l' : List Nat}, gg l = gg l' -> l = l'
 | [], [], _ => rfl
 | [], _ :: _, h => by cases h
 | _ :: _, [], h => by cases h
 | a :: l, b :: l', h => by
   have h : Sum.inl (a : Int) :: gg l = (Sum.inl (b : Int) :: gg l' : List Key) := h
   injection h with h1 h2
   injection h1 with h1
   rw [mZ h2, show a = b by omega]
theorem qF (l : List Nat) : aZ cQ (gg l) = if Vablda.isIn Vablda.signs2 l = true then some (.str (b9 ⟨5, l, 0⟩)) else none := by
 by_cases h1 : l = [61, 61]
 ·subst h1; rfl
 by_cases h2 : l = [33, 61]
 ·subst h2; rfl
 by_cases h3 : l = [60, 61]
 ·subst h3; rfl
 have e : Vablda.isIn Vablda.signs2 l = false := by
  simp only [Vablda.isIn, Vablda.signs2, List.any_cons, List.any_nil, Bool.or_false, Bool.or_eq_false_iff]
  exact ⟨by simp [Vablda.str]; exact fun e => h1 e.symm, by simp [Vablda.str]; exact fun e => h2 e.symm, by simp [Vablda.str]; exact fun e => h3 e.symm⟩
 rw [e, if_neg (by decide)]
 have m1 : ¬ (([Sum.inl 61, Sum.inl 61] : List Key) = gg l) := fun e => h1 (mZ (l := l) (l' := [61, 61]) e.symm)
 have m2 : ¬ (([Sum.inl 33, Sum.inl 61] : List Key) = gg l) := fun e => h2 (mZ (l := l) (l' := [33, 61]) e.symm)
 have m3 : ¬ (([Sum.inl 60, Sum.inl 61] : List Key) = gg l) := fun e => h3 (mZ (l := l) (l' := [60, 61]) e.symm)
 unfold aZ cQ
 simp [List.find?, m1, m2, m3]
section
variable {P : Program} {w : World} {K : Frag} {mg : Str -> Option Value} {base : Heap} {A : Ad} {k : Nat}
abbrev kI : Stmt := top 84
theorem jk : ai ["text", "place", "pair", "byte"] ["text", "place"] (ad kI) := by walk_at "sc"
theorem rW (T : Txt P w K mg A) (F : Fd K mg "sign_at" kI) (aR : Rz P w K mg base "TokenFault" A.R k 2) (bi : Mkf P w K mg base "Token" A.tok k 4 oX)  : Fn P w K mg base "sign_at" (k + 1) ["text", "place"] (iE K A.tok A.R fun c => Vablda.letter c = false /\ Vablda.digit c = false /\ c ≠ 34) := by
 refine Fn.of2 F jk (fun _ _ _ _ _ _ _ _ => rfl) fun g cdv Ar outer s H a b Q E hr h => ⟨_, (a9 (aq (i := 2) (o9 iD rfl T.b_tuple (by rfl) (a8 (ie kh (q_v 0) (dU (q_v 1)) (dU (cq fZ (q_v 1) ap))) aa)) jk.nd) (a9 (aE (tD (zQ T.t_LONG_SIGNS (qC hr) (q_v 2) (q_g T.g_LONG_SIGNS))) (ac (aj (iC bi hr ae (a8 (xD T.t_LONG_SIGNS (qC hr) (q_g T.g_LONG_SIGNS) (q_v 2)) (a8 (q_v 1) (a8 (cq fZ (q_v 1) ap) (a8 (aJ aa) aa))))))) am) (a9 (aq (i := 3) (eX (q_v 0) (q_v 1)) jk.nd) (a9 (aE (tD (Cy T.t_SHORT_SIGNS (q_v 3) (q_g T.g_SHORT_SIGNS))) (ac (aj (iC bi hr ae (a8 (p9 T.t_SHORT_SIGNS (q_g T.g_SHORT_SIGNS) (q_v 3)) (a8 (q_v 1) (a8 (cq fZ (q_v 1) ap) (a8 (aJ aa) aa))))))) am) (ac (mG aR hr bc (q_v 1))))))), ?_⟩
 obtain ⟨T', n, c0, ⟨p, rfl, hp⟩, rfl, hc0, hl, ⟨hp1, hp2, hp3⟩, q⟩ := h
 obtain ⟨r0, hr0⟩ := ir hc0
 have hn : n < T'.length := (List.getElem?_eq_some_iff.mp hc0).1
 unfold Vp.stepT at q
 rw [hr0] at q
 simp only [hp1, hp2, hp3, Bool.false_eq_true, if_false] at q
 rw [<- hr0] at q
 walk_at "rd"
 refine ⟨_, rfl, _, rfl, _, _, rfl, hp, fun d hd => ⟨d, _, rfl, .inl ⟨.inl (.inl af), fun l hl => ?_⟩⟩⟩
 have e2 : mS (bts T') (some (n : Int)) (some ((n : Int) + 2)) = bts ((T'.drop n).take 2) := by
  have := oS (T := T') (n := n) (m := n + 2) (by omega)
  rw [show n + 2 - n = 2 by omega] at this
  rw [<- this]; rfl
 rw [e2]
 rw [e2] at hl
 generalize (T'.drop n).take 2 = pr at *
 have hs1 : Same H (upd H d (.lst (bts pr))) := Same.upd hd
 have hs2 : Same (upd H d (.lst (bts pr))) (upd (upd H d (.lst (bts pr))) l (.tup (bts pr))) := Same.upd hl
 refine ⟨gg pr, by rw [vB, af], ?_⟩
 rw [qF]
 by_cases h2 : Vablda.isIn Vablda.signs2 pr = true
 ·rw [if_pos h2] at q
  simp only [h2, if_true, Option.isSome_some]
  refine ⟨gg pr, .str (b9 ⟨5, pr, 0⟩), by rw [vB, af], by rw [qF, if_pos h2], by decide, fun e he => ⟨by trivial, fun a dx ha hdx hne => ?_⟩⟩
  have hs3 := Same.upd (o := .lst []) he
  exact q _ _ (bI ((hs1.trans hs2).trans hs3) ha hdx) (dy (t := ⟨5, pr, n⟩) (m := n + 2) ((hs1.trans hs2).trans hs3) ha hdx ((hs1.trans hs2).free he) af rfl rfl)
 ·rw [if_neg h2] at q
  simp only [h2, if_false, Bool.false_eq_true, Option.isSome_none]
  refine ⟨_, _, (hs1.trans hs2).seq hp, dH hc0, ?_⟩
  dsimp only
  rw [uB]
  by_cases h1 : Vablda.isIn Vablda.signs1 [c0] = true
  ·rw [if_pos h1] at q
   simp only [h1, if_true, Option.isSome_some, Bool.false_bne]
   refine ⟨_, rfl, by decide, fun e he => ⟨by trivial, fun a dx ha hdx hne => ?_⟩⟩
   have hs3 := Same.upd (o := .lst []) he
   exact q _ _ (bI ((hs1.trans hs2).trans hs3) ha hdx) (dy (t := ⟨5, [c0], n⟩) (m := n + 1) ((hs1.trans hs2).trans hs3) ha hdx ((hs1.trans hs2).free he) af rfl rfl)
  ·rw [if_neg h1] at q
   simp only [h1, if_false, Bool.false_eq_true, Option.isSome_none, Bool.false_bne]
   exact q
abbrev iJ : Stmt := top 70
theorem l3 : ai ["text", "place", "byte"] ["text", "place"] (ad iJ) := by walk_at "sc"
theorem rL (T : Txt P w K mg A) (F : Fd K mg "token_at" iJ) (cp : Fn P w K mg base "is_letter" k ["byte"] (fJ Vablda.letter)) (ba : Fn P w K mg base "is_digit" k ["byte"] (fJ Vablda.digit)) (kP : Fn P w K mg base "word_at" k ["text", "place"] (iE K A.tok A.R fun c => Vablda.letter c = true)) (gE : Fn P w K mg base "number_at" k ["text", "place"] (iE K A.tok A.R fun c => Vablda.letter c = false /\ Vablda.digit c = true)) (gC : Fn P w K mg base "quoted_at" k ["text", "place"] (iE K A.tok A.R fun c => c = 34)) (kN : Fn P w K mg base "sign_at" k ["text", "place"] (iE K A.tok A.R fun c => Vablda.letter c = false /\ Vablda.digit c = false /\ c ≠ 34))  : Fn P w K mg base "token_at" (k + 1) ["text", "place"] (iE K A.tok A.R fun _ => True) := by
 refine Fn.of2 F l3 (fun _ _ _ _ _ _ _ _ => rfl) fun g cdv Ar outer s H a b Q E hr h => ⟨_, (a9 (aq (i := 2) (eX (q_v 0) (q_v 1)) l3.nd) (a9 (aE (c6 (q_c cp hr ae (a8 (q_v 2) aa))) (ac (aj (q_c kP hr ae (a8 (q_v 0) (a8 (q_v 1) aa))))) am) (a9 (aE (c6 (q_c ba hr ae (a8 (q_v 2) aa))) (ac (aj (q_c gE hr ae (a8 (q_v 0) (a8 (q_v 1) aa))))) am) (a9 (aE (b7 bP (q_v 2) (q_g T.g_QUOTE)) (ac (aj (q_c gC hr ae (a8 (q_v 0) (a8 (q_v 1) aa))))) am) (ac (aj (q_c kN hr ae (a8 (q_v 0) (a8 (q_v 1) aa))))))))), ?_⟩
 obtain ⟨T', n, c0, ⟨p, rfl, hp⟩, rfl, hc0, hl, _, q⟩ := h
 walk_at "rd"
 refine ⟨_, _, hp, dH hc0, c0, rfl, ?_⟩
 dsimp only
 cases h1 : Vablda.letter c0 with
 | true => exact bU ⟨T', n, c0, ⟨p, rfl, hp⟩, rfl, hc0, hl, h1, q⟩
 | false =>
   refine c9 ⟨c0, rfl, ?_⟩
   cases h2 : Vablda.digit c0 with
   | true => exact bU ⟨T', n, c0, ⟨p, rfl, hp⟩, rfl, hc0, hl, ⟨h1, h2⟩, q⟩
   | false =>
     refine c9 ?_
     by_cases h3 : c0 = 34
     ·rw [if_pos (by omega)]
      exact ⟨T', n, c0, ⟨p, rfl, hp⟩, rfl, hc0, hl, h3, q⟩
     ·rw [if_neg (by omega)]
      exact ⟨T', n, c0, ⟨p, rfl, hp⟩, rfl, hc0, hl, ⟨h1, h2, h3⟩, q⟩
end
end L2
namespace L2
open PySem PySem.Spec PyProof.Rows
def wf (t : Vablda.Tok) : Prop := t.kind <= 5 /\ (t.kind = 2 -> Vablda.isKept t.text = true) /\ (t.kind = 5 -> Vablda.isIn Vablda.signs2 t.text = true ∨ Vablda.isIn Vablda.signs1 t.text = true)
def Good : List Vablda.Tok -> Prop
 | [] => False
 | t :: r => wf t /\ if t.kind = 0 then r = [] else Good r
theorem rE : ∀ {l : List Vablda.Tok} {e : Vablda.Tok}, (∀ t ∈ l, wf t /\ t.kind ≠ 0) -> wf e -> e.kind = 0 -> Good (l ++ [e])
 | [], e, _, h1, h2 => ⟨h1, by rw [if_pos h2]⟩
 | t :: l, e, h, h1, h2 => by
   obtain ⟨a, b⟩ := h t (List.mem_cons.mpr (.inl rfl))
   exact ⟨a, by rw [if_neg b]; exact rE (fun u hu => h u (List.mem_cons.mpr (.inr hu))) h1 h2⟩
def Toks (N : Addr -> Prop) (C : Addr) (H : Hp) : List V -> List Vablda.Tok -> Prop
 | [], [] => True
 | v :: vs, t :: ts => (∃ m, TokAt N C H v t m) /\ Toks N C H vs ts
 | _, _ => False
theorem Toks.same {N : Addr -> Prop} {C : Addr} {H H' : Hp} (e : ∀ b o, N b -> H b = some o -> H' b = some o) : ∀ {vs : List V} {ts : List Vablda.Tok}, Toks N C H vs ts -> Toks N C H' vs ts
 | [], [], h => trivial
 | v :: vs, t :: ts, ⟨⟨m, h1⟩, h2⟩ => ⟨⟨m, h1.same e⟩, Toks.same e h2⟩
 | [], _ :: _, h => h.elim
 | _ :: _, [], h => h.elim
theorem Toks.mono {N N' : Addr -> Prop} {C : Addr} {H : Hp} (e : ∀ b, N b -> N' b) : ∀ {vs : List V} {ts : List Vablda.Tok}, Toks N C H vs ts -> Toks N' C H vs ts
 | [], [], h => trivial
 | v :: vs, t :: ts, ⟨⟨m, h1⟩, h2⟩ => ⟨⟨m, h1.mono e⟩, Toks.mono e h2⟩
 | [], _ :: _, h => h.elim
 | _ :: _, [], h => h.elim
theorem Toks.snoc {N : Addr -> Prop} {C : Addr} {H : Hp} {v : V} {t : Vablda.Tok} {m : Nat} (h : TokAt N C H v t m) : ∀ {vs : List V} {ts : List Vablda.Tok}, Toks N C H vs ts -> Toks N C H (vs ++ [v]) (ts ++ [t])
 | [], [], _ => ⟨⟨m, h⟩, trivial⟩
 | _ :: _, _ :: _, ⟨h1, h2⟩ => ⟨h1, Toks.snoc h h2⟩
 | [], _ :: _, h => h.elim
 | _ :: _, [], h => h.elim
theorem Toks.len {N : Addr -> Prop} {C : Addr} {H : Hp} : ∀ {vs : List V} {ts : List Vablda.Tok}, Toks N C H vs ts -> vs.length = ts.length
 | [], [], _ => rfl
 | _ :: _, _ :: _, ⟨_, h2⟩ => by rw [List.length_cons, List.length_cons, h2.len]
 | [], _ :: _, h => h.elim
 | _ :: _, [], h => h.elim
theorem Toks.get {N : Addr -> Prop} {C : Addr} {H : Hp} : ∀ {vs : List V} {ts : List Vablda.Tok} {i : Nat} {t : Vablda.Tok}, Toks N C H vs ts -> ts[i]? = some t -> ∃ v m, vs[i]? = some v /\ TokAt N C H v t m
 | _ :: _, _ :: _, 0, t, ⟨⟨m, h1⟩, _⟩, e => by cases e; exact ⟨_, m, rfl, h1⟩
 | _ :: _, _ :: _, i + 1, t, ⟨_, h2⟩, e => h2.get (i := i) e
 | [], [], i, t, _, e => by simp at e
 | [], _ :: _, _, _, h, _ => h.elim
 | _ :: _, [], _, _, h, _ => h.elim
theorem xJ {T : List Nat} {i m : Nat} {t : Vablda.Tok} (h : Vp.stepT T i = .ok (t, m)) : wf t /\ t.kind ≠ 0 := by
 unfold Vp.stepT at h
 split at h
 ·cases h
 ·split at h
  ·split at h
   ·cases h
   ·cases h
    generalize List.takeWhile Vablda.inner _ = W
    by_cases q : Vablda.isKept W = true
    ·simp only [q, if_true]; exact ⟨⟨by simp, fun _ => q, by simp⟩, by simp⟩
    ·simp only [q, if_false, Bool.false_eq_true]; exact ⟨⟨by simp, by simp, by simp⟩, by simp⟩
  ·split at h
   ·split at h
    ·cases h; exact ⟨⟨by simp, by simp, by simp⟩, by simp⟩
    ·cases h
   ·split at h
    ·split at h
     ·split at h
      ·cases h
      ·cases h; exact ⟨⟨by simp, by simp, by simp⟩, by simp⟩
     ·cases h
    ·split at h
     ·rename_i q; cases h; exact ⟨⟨by simp, by simp, fun _ => .inl q⟩, by simp⟩
     ·split at h
      ·rename_i q; cases h; exact ⟨⟨by simp, by simp, fun _ => .inr q⟩, by simp⟩
      ·cases h
def Dh (N : Addr -> Prop) (C : Addr) (H : Hp) (v : V) (ts : List Vablda.Tok) : Prop := ∃ l vs, v = .ref l /\ N l /\ H l = some (.lst vs) /\ Toks N C H vs ts
section
variable {P : Program} {w : World} {K : Frag} {mg : Str -> Option Value} {base : Heap} {A : Ad} {k : Nat}
def xU (K : Frag) (C R : Addr) : Sp := sp1 fun a H Q E => ∃ T : List Nat, TextAt K H a T /\ T.length <= 4096 /\
 (match Vablda.cut T with | .ok ts => (∀ v H', Same H H' -> Dh (fun x => H x = none) C H' v ts -> Good ts -> ts.length <= 4097 -> Q v H') | .error e => Fl K R E e.kind e.place)
theorem vc (c : Nat) : inV (.int c) kX = Vablda.blank c := by
 have e : inV (.int c) kX = ((32 : Int) == c || ((9 : Int) == c || ((10 : Int) == c || ((13 : Int) == c || false)))) := rfl
 rw [e]
 unfold Vablda.blank
 simp only [Bool.beq_eq_decide_eq, Bool.or_false, <- Bool.decide_or]
 have : ∀ a b : Nat, ((a : Int) == (b : Int)) = (b == a) := fun a b => by
  rw [Bool.eq_iff_iff]; simp; omega
 have e1 := this 32 c; have e2 := this 9 c; have e3 := this 10 c; have e4 := this 13 c
 simp only [Int.cast_ofNat_Int] at e1 e2 e3 e4
 first | rw [e1, e2, e3, e4] | (rw [Bool.eq_iff_iff]; simp; omega)
abbrev vt : Stmt := top 68
theorem iQ : ai ["text", "tokens", "at", "token"] ["text"] (ad vt) := by walk_at "sc"
theorem Ae (T : Txt P w K mg A) (F : Fd K mg "cut" vt) (fU : Fn P w K mg base "remark_end" k ["text", "place"] (va K (fun x => x != 10))) (jj : Fn P w K mg base "token_at" k ["text", "place"] (iE K A.tok A.R fun _ => True)) (bi : Mkf P w K mg base "Token" A.tok k 4 oX)  : Fn P w K mg base "cut" (k + 1) ["text"] (xU K A.tok A.R) := by
 refine Fn.of1 F iQ (fun _ _ _ _ _ _ _ => rfl) fun g cdv Ar outer s H a Q E hr h => ⟨_, (a9 (aq (i := 1) (aJ aa) iQ.nd) (a9 (aq (i := 2) ap iQ.nd) (a9 (bp (bv PassesOwn.leaving (b7 uX (q_v 2) (cy (x := "len") T.b_len (q_v 0))) (ac (aE (b7 yA (eX (q_v 0) (q_v 2)) (q_g T.g_BLANKS)) (ac (qP (i := 2) jt ap iQ.nd rfl (Or.inl rfl))) (ac (aE (b7 bP (eX (q_v 0) (q_v 2)) (q_g T.g_HASH)) (ac (aq (i := 2) (q_c fU hr ae (a8 (q_v 0) (a8 (q_v 2) aa))) iQ.nd)) (a9 (aq (i := 3) (q_c jj hr ae (a8 (q_v 0) (a8 (q_v 2) aa))) iQ.nd) (a9 (aA (cD (q_v 1) (q_v 3))) (ac (aq (i := 2) (q_f T.cl_tok T.na_tok_after (q_v 3)) iQ.nd)))))))))) (a9 (aA (cD (q_v 1) (iC bi hr ae (a8 aw (a8 (cy (x := "len") T.b_len (q_v 0)) (a8 (cy (x := "len") T.b_len (q_v 0)) (a8 (aJ aa) aa))))))) (ac (aj (q_v 1))))))), ?_⟩
 obtain ⟨T', ⟨p, rfl, hp⟩, hl, q⟩ := h
 walk_at "rd"
 refine ⟨by decide, fun l hl0 => ?_⟩
 refine bo (fun σ H' => ∃ (vs : List V) (dn : List Vablda.Tok) (i x : Option V), σ = [some (.ref p), some (.ref l), i, x] /\ Same H H' /\ H' l = some (.lst vs) /\ Toks (fun x => H x = none /\ x ≠ l) A.tok H' vs dn /\ dn.length <= 4096 /\ (∀ t ∈ dn, wf t /\ t.kind ≠ 0) /\
   Vablda.cut T' = .ok (dn ++ [⟨0, [], T'.length⟩]))
  (Exists.intro (fun m σ H' => ∃ (i : Nat) (vs : List V) (dn : List Vablda.Tok) (x : Option V), σ = [some (.ref p), some (.ref l), some (.int i), x] /\ m = T'.length - i /\ Same H H' /\ H' l = some (.lst vs) /\ Toks (fun x => H x = none /\ x ≠ l) A.tok H' vs dn /\ i <= T'.length /\ dn.length <= i /\ (∀ t ∈ dn, wf t /\ t.kind ≠ 0) /\
   ∃ fuel, T'.length - i < fuel /\ Vablda.cut T' = (Vablda.cutIn T'.length fuel (T'.drop i)).map (dn ++ ·)) ⟨⟨T'.length, 0, [], [], none, by simp, by omega, Same.upd hl0, af, trivial, by omega, by simp, by simp, T'.length + 1, by omega, ?_⟩, ?_⟩) ?_
 ·unfold Vablda.cut
  rw [List.drop_zero]
  cases Vablda.cutIn T'.length (T'.length + 1) T' <;> rfl
 ·rintro m σ H' ⟨i, vs, dn, x, rfl, rfl, hs, hL, hT, hi, hdn, hwf, fuel, hf, hc⟩
  walk_at "rd"
  refine ⟨_, hs.seq hp, ?_⟩
  rw [bz]
  by_cases hlt : i < T'.length
  ·rw [if_pos (by omega)]
   obtain ⟨c, hcc⟩ : ∃ c, T'[i]? = some c := ⟨T'[i], List.getElem?_eq_getElem hlt⟩
   obtain ⟨r, hr⟩ := ir hcc
   have hr1 : T'.drop (i + 1) = r := by rw [<- List.drop_drop, hr]; rfl
   obtain ⟨fuel, rfl⟩ : ∃ f, fuel = f + 1 := ⟨fuel - 1, by omega⟩
   refine ⟨_, fun _ _ h => h, _, _, hs.seq hp, dH hcc, _, T.t_BLANKS.sq _, rfl, rfl, ?_⟩
   rw [vc]
   cases hb : Vablda.blank c with
   | true =>
     refine bU ⟨T'.length - (i + 1), by omega, i + 1, vs, dn, x, rfl, rfl, hs, hL, hT, by omega, by omega, hwf, fuel, by omega, ?_⟩
     rw [hc, hr, Vablda.cutIn, if_pos hb, hr1]
   | false =>
     refine c9 ⟨_, _, hs.seq hp, dH hcc, ?_⟩
     dsimp only
     by_cases h35 : c = 35
     ·rw [if_pos (by omega)]
      have hne : (c != 10) = true := by rw [h35]; rfl
      have hle := (List.takeWhile_prefix (p := fun x => x != 10) (l := T'.drop i)).length_le
      rw [List.length_drop] at hle
      have hpos : 0 < ((T'.drop i).takeWhile fun x => x != 10).length := by rw [hr, List.takeWhile_cons_of_pos (p := fun x => x != 10) hne]; simp
      refine ⟨T', i, ⟨p, rfl, hs.seq hp⟩, rfl, by omega, ?_⟩
      refine ⟨T'.length - (i + ((T'.drop i).takeWhile fun x => x != 10).length), by omega, _, vs, dn, x, rfl, rfl, hs, hL, hT, by omega, by omega, hwf, fuel, by omega, ?_⟩
      rw [hc, <- List.drop_drop, Vp.drop_takeWhile, hr, List.dropWhile_cons_of_pos (p := fun x => x != 10) hne, Vablda.cutIn, if_neg (by rw [hb]; decide), if_pos h35]
     ·rw [if_neg (by omega)]
      refine ⟨T', i, c, ⟨p, rfl, hs.seq hp⟩, rfl, hcc, hl, trivial, ?_⟩
      rw [hr, Vp.cut_step hr hb h35] at hc
      cases hst : Vp.stepT T' i with
      | error e =>
        rw [hst] at hc
        rw [hc] at q
        exact q
      | ok tm =>
        obtain ⟨t, m⟩ := tm
        rw [hst] at hc
        intro v H2 hs2 hv
        obtain ⟨a1, a2⟩ := Vp.step_after hlt hst
        obtain ⟨w1, w2⟩ := xJ hst
        have hL2 := hs2 _ _ hL
        obtain ⟨a, dx, dl, rfl, ⟨na, nl⟩, ha, hdl⟩ := id hv
        have hs3 : Same H H2 := hs.trans hs2
        have nal : a ≠ l := oA ha hL2 (by intro z; cases z)
        have nll : dl ≠ l := fun z => by rw [z, hL] at nl; cases nl
        refine ⟨⟨_, hL2⟩, _, hL2, ?_, dx, _, _, by rw [al nal]; exact ha, rfl, ?_⟩
        ·rw [hT.len, sizeLine_eq]; omega
        ·refine ⟨T'.length - m, by omega, m, vs ++ [.ref a], dn ++ [t], _, rfl, rfl, hs3.upd2 hl0, af, ?_, by omega, by simp; omega, ?_, fuel, by omega, ?_⟩
         ·refine Toks.snoc (m := m) ?_ ?_
          ·exact (hv.same (H' := L2.upd H2 l _) fun b o nb e => by
            rw [al]; exact e
            intro z; rw [z, hL] at nb; cases nb).mono fun b nb => ⟨hs.free nb, fun z => by rw [z, hL] at nb; cases nb⟩
          ·exact hT.same fun b o nb e => by rw [al nb.2]; exact hs2 _ _ e
         ·intro u hu
          rcases List.mem_append.mp hu with hu | hu
          ·exact hwf u hu
          ·rw [List.mem_singleton.mp hu]; exact ⟨w1, w2⟩
         ·rw [hc]
          dsimp only
          generalize Vablda.cutIn T'.length fuel (T'.drop m) = X
          cases X <;> simp [Except.map]
  ·rw [if_neg (by omega)]
   refine ⟨vs, dn, _, x, rfl, hs, hL, hT, by omega, hwf, ?_⟩
   obtain ⟨fuel, rfl⟩ : ∃ f, fuel = f + 1 := ⟨fuel - 1, by omega⟩
   rw [hc, List.drop_of_length_le (by omega), Vablda.cutIn]
   rfl
 ·rintro σ H' ⟨vs, dn, i, x, rfl, hs, hL, hT, hdn, hwf, hc⟩
  rw [hc] at q
  walk_at "rd"
  refine ⟨⟨_, hL⟩, _, hs.seq hp, _, hs.seq hp, by decide, fun e he => ⟨by trivial, fun a dx ha hdx hne => ?_⟩⟩
  rw [bz]
  have hs1 : Same H' (upd H' e (.lst [])) := Same.upd he
  have hs2 := bI (o := .ins A.tok dx (oX [.str "end", .int (T'.length : Nat), .int (T'.length : Nat), .ref e])) hs1 ha hdx
  have hL2 := hs2 _ _ hL
  refine ⟨_, hL2, by rw [hT.len, sizeLine_eq]; omega, ?_⟩
  refine q _ _ ((hs.trans hs2).upd2 hl0) ⟨l, _, rfl, hl0, af, Toks.snoc (m := T'.length) ?_ ((hT.same fun b o nb e => by rw [al nb.2]; exact hs2 _ _ e).mono fun b nb => nb.1)⟩ (rE hwf ⟨by simp, by simp, by simp⟩ rfl) (by simp; omega)
  have tk := dy (C := A.tok) (t := ⟨0, [], T'.length⟩) (m := T'.length) hs1 ha hdx he af rfl rfl
  exact (tk.same (H' := L2.upd _ l _) fun b o nb e => by
   rw [al]; exact e
   intro z; rw [z, hL] at nb; cases nb).mono fun b nb => hs.free nb
end
end L2
namespace L2
open PySem PySem.Spec PyProof.Rows
open Vablda (Got next)
abbrev Tk := Vablda.Tok
abbrev Tr := Vablda.Tree
def kS : List String := Vablda.keptWords
def fh : List String := ["==", "!=", "<=", "=", "<", "+", "-", "*", "/", "(", ")", "[", "]", "{", "}", ",", ";", ":", "."]
theorem p0 {t : List Nat} (h : Vablda.isKept t = true) : t ∈ keptL := by
 rw [je] at h
 obtain ⟨l, hl, e⟩ := List.any_eq_true.mp h
 rw [<- (by simpa using e : l = t)]; exact hl
def ja : List (List Nat) := (Vablda.signs2 ++ Vablda.signs1).map Vablda.str
theorem pX {t : List Nat} (h : Vablda.isIn Vablda.signs2 t = true ∨ Vablda.isIn Vablda.signs1 t = true) : t ∈ ja := by
 unfold ja
 rw [List.map_append, List.mem_append]
 refine h.imp (fun h => ?_) fun h => ?_ <;>
 ·obtain ⟨l, hl, e⟩ := List.any_eq_true.mp h
  rw [<- (by simpa using e : Vablda.str l = t)]; exact List.mem_map.mpr ⟨l, hl, rfl⟩
def dN (k : Nat) (x : List Nat) : Str := match k with
 | 0 => "end"
 | 1 => "name"
 | 3 => "number"
 | 4 => "text"
 | _ => if x = [37] then "percent" else ⟨x.toArray⟩
theorem fC (t : Tk) : b9 t = dN t.kind t.text := rfl
theorem im {t : Tk} (h : wf t) {p : Nat -> List Nat -> Prop} (h0 : ∀ x, p 0 x) (h1 : ∀ x, p 1 x) (h2 : ∀ x ∈ keptL, p 2 x) (h3 : ∀ x, p 3 x) (h4 : ∀ x, p 4 x) (h5 : ∀ x ∈ ja, p 5 x) : p t.kind t.text := by
 obtain ⟨a, b, c⟩ := h
 obtain ⟨k, x, pl⟩ := t
 dsimp only at *
 match k, a with
 | 0, _ => exact h0 x
 | 1, _ => exact h1 x
 | 2, _ => exact h2 x (p0 (b rfl))
 | 3, _ => exact h3 x
 | 4, _ => exact h4 x
 | 5, _ => exact h5 x (pX (c rfl))
theorem wO {t : Tk} (h : wf t) {s : String} (hs : s ∈ fh) : (t.kind == 5 && t.text == Vablda.str s) = decide (b9 t = Str.ofString s) := by
 rw [fC]
 have key : ∀ s ∈ fh, (("end" : Str) ≠ Str.ofString s /\ ("name" : Str) ≠ Str.ofString s /\ ("number" : Str) ≠ Str.ofString s /\ ("text" : Str) ≠ Str.ofString s) /\ (∀ x ∈ keptL, dN 2 x ≠ Str.ofString s) /\ ∀ x ∈ ja, (x == Vablda.str s) = decide (dN 5 x = Str.ofString s) := by decide
 obtain ⟨⟨k0, k1, k3, k4⟩, k2, k5⟩ := key s hs
 exact im h (p := fun k x => (k == 5 && x == Vablda.str s) = decide (dN k x = Str.ofString s)) (fun x => (decide_eq_false k0).symm) (fun x => (decide_eq_false k1).symm) (fun x hx => (decide_eq_false (k2 x hx)).symm) (fun x => (decide_eq_false k3).symm) (fun x => (decide_eq_false k4).symm) (fun x hx => k5 x hx)
theorem xn {t : Tk} (h : wf t) {s : String} (hs : s ∈ kS) : (t.kind == 2 && t.text == Vablda.str s) = decide (b9 t = Str.ofString s) := by
 rw [fC]
 have key : ∀ s ∈ kS, (("end" : Str) ≠ Str.ofString s /\ ("name" : Str) ≠ Str.ofString s /\ ("number" : Str) ≠ Str.ofString s /\ ("text" : Str) ≠ Str.ofString s) /\ (∀ x ∈ ja, dN 5 x ≠ Str.ofString s) /\ ∀ x ∈ keptL, (x == Vablda.str s) = decide (dN 2 x = Str.ofString s) := by decide
 obtain ⟨⟨k0, k1, k3, k4⟩, k5, k2⟩ := key s hs
 exact im h (p := fun k x => (k == 2 && x == Vablda.str s) = decide (dN k x = Str.ofString s)) (fun x => (decide_eq_false k0).symm) (fun x => (decide_eq_false k1).symm) (fun x hx => k2 x hx) (fun x => (decide_eq_false k3).symm) (fun x => (decide_eq_false k4).symm) (fun x hx => (decide_eq_false (k5 x hx)).symm)
theorem zo {t : Tk} (h : wf t) : (t.kind == 5 && t.text == Vablda.str "%") = decide (b9 t = "percent") := by
 rw [fC]
 have k2 : ∀ x ∈ keptL, dN 2 x ≠ "percent" := by decide
 have k5 : ∀ x ∈ ja, (x == Vablda.str "%") = decide (dN 5 x = "percent") := by decide
 exact im h (p := fun k x => (k == 5 && x == Vablda.str "%") = decide (dN k x = "percent")) (fun x => by rfl) (fun x => by rfl) (fun x hx => (decide_eq_false (k2 x hx)).symm) (fun x => by rfl) (fun x => by rfl) (fun x hx => k5 x hx)
theorem lD {t : Tk} (h : wf t) : (t.kind = 0 ↔ b9 t = "end") /\ (t.kind = 1 ↔ b9 t = "name") /\ (t.kind = 3 ↔ b9 t = "number") /\ (t.kind = 4 ↔ b9 t = "text") := by
 rw [fC]
 have k2 : ∀ x ∈ keptL, dN 2 x ≠ "end" /\ dN 2 x ≠ "name" /\ dN 2 x ≠ "number" /\ dN 2 x ≠ "text" := by decide
 have k5 : ∀ x ∈ ja, dN 5 x ≠ "end" /\ dN 5 x ≠ "name" /\ dN 5 x ≠ "number" /\ dN 5 x ≠ "text" := by decide
 have a : ∀ {s u : Str}, s ≠ u -> ∀ {m n : Nat}, m ≠ n -> (m = n ↔ s = u) := fun h1 m n h2 => ⟨fun e => absurd e h2, fun e => absurd e h1⟩
 exact im h (p := fun k x => (k = 0 ↔ dN k x = "end") /\ (k = 1 ↔ dN k x = "name") /\ (k = 3 ↔ dN k x = "number") /\ (k = 4 ↔ dN k x = "text"))
  (fun x => ⟨⟨fun _ => rfl, fun _ => rfl⟩, a (show ("end" : Str) ≠ "name" by decide) (by decide), a (show ("end" : Str) ≠ "number" by decide) (by decide), a (show ("end" : Str) ≠ "text" by decide) (by decide)⟩)
  (fun x => ⟨a (show ("name" : Str) ≠ "end" by decide) (by decide), ⟨fun _ => rfl, fun _ => rfl⟩, a (show ("name" : Str) ≠ "number" by decide) (by decide), a (show ("name" : Str) ≠ "text" by decide) (by decide)⟩)
  (fun x hx => ⟨a (k2 x hx).1 (by decide), a (k2 x hx).2.1 (by decide), a (k2 x hx).2.2.1 (by decide), a (k2 x hx).2.2.2 (by decide)⟩)
  (fun x => ⟨a (show ("number" : Str) ≠ "end" by decide) (by decide), a (show ("number" : Str) ≠ "name" by decide) (by decide), ⟨fun _ => rfl, fun _ => rfl⟩, a (show ("number" : Str) ≠ "text" by decide) (by decide)⟩)
  (fun x => ⟨a (show ("text" : Str) ≠ "end" by decide) (by decide), a (show ("text" : Str) ≠ "name" by decide) (by decide), a (show ("text" : Str) ≠ "number" by decide) (by decide), ⟨fun _ => rfl, fun _ => rfl⟩⟩)
  (fun x hx => ⟨a (k5 x hx).1 (by decide), a (k5 x hx).2.1 (by decide), a (k5 x hx).2.2.1 (by decide), a (k5 x hx).2.2.2 (by decide)⟩)
theorem Good.wf {ts : List Tk} (h : Good ts) : wf (next ts) := by
 cases ts with
 | nil => exact h.elim
 | cons t r => exact h.1
theorem Good.rest {ts : List Tk} (h : Good ts) (k : (next ts).kind ≠ 0) : Good (ts.drop 1) := by
 cases ts with
 | nil => exact h.elim
 | cons t r => have := h.2; rw [if_neg (show ¬ t.kind = 0 from k)] at this; exact this
theorem Good.pos {ts : List Tk} (h : Good ts) : 0 < ts.length := by
 cases ts with
 | nil => exact h.elim
 | cons t r => simp
def kd (ts : List Tk) : Str := b9 (next ts)
theorem aM {ts : List Tk} (h : Good ts) {s : String} (hs : s ∈ fh := by decide) : Vablda.isSign s ts = decide (kd ts = Str.ofString s) := wO h.wf hs
theorem bh {ts : List Tk} (h : Good ts) {s : String} (hs : s ∈ kS := by decide) : Vablda.isWord s ts = decide (kd ts = Str.ofString s) := xn h.wf hs
theorem zg {ts : List Tk} (h : Good ts) : Vablda.isSign "%" ts = decide (kd ts = "percent") := zo h.wf
theorem iq {ts : List Tk} (h : Good ts) : Vablda.isName ts = decide (kd ts = "name") := by
 show ((next ts).kind == 1) = _
 rw [Bool.eq_iff_iff, beq_iff_eq, decide_eq_true_eq]
 exact (lD h.wf).2.1
theorem kQ {ts : List Tk} (h : Good ts) : (next ts).kind = 0 ↔ kd ts = "end" := (lD h.wf).1
theorem Ab {ts : List Tk} (h : Good ts) : (next ts).kind = 3 ↔ kd ts = "number" := (lD h.wf).2.2.1
theorem pc {ts : List Tk} (h : Good ts) : (next ts).kind = 4 ↔ kd ts = "text" := (lD h.wf).2.2.2
def jT (k p : Nat) (dl pl : Addr) : List (Str × V) := [("kind", .int k), ("place", .int p), ("data", .ref dl), ("parts", .ref pl)]
def oB (vs : List V) : List (Str × V) := match vs with
 | [k, p, d, l] => [("kind", k), ("place", p), ("data", d), ("parts", l)]
 | _ => []
mutual
inductive TreeAt (C : Addr) (F : Hp) : V -> Tr -> Prop
 | mk {a dx dl pl : Addr} {t : Tr} {vs : List V} : F a = some (.ins C dx (jT (Vablda.kindOf t) (Vablda.placeOf t) dl pl)) -> F dl = some (.lst (bts (Vablda.bytesOf t))) -> F pl = some (.lst vs) -> TreesAt C F vs (Vablda.partsOf t) -> TreeAt C F (.ref a) t
inductive TreesAt (C : Addr) (F : Hp) : List V -> List Tr -> Prop
 | nil : TreesAt C F [] []
 | cons {v : V} {vs : List V} {t : Tr} {ts : List Tr} : TreeAt C F v t -> TreesAt C F vs ts -> TreesAt C F (v :: vs) (t :: ts)
end
mutual
theorem TreeAt.mono {C : Addr} {F F' : Hp} (e : Same F F') : ∀ {v : V} {t : Tr}, TreeAt C F v t -> TreeAt C F' v t
 | _, _, .mk h1 h2 h3 h4 => .mk (e _ _ h1) (e _ _ h2) (e _ _ h3) (h4.mono e)
theorem TreesAt.mono {C : Addr} {F F' : Hp} (e : Same F F') : ∀ {v : List V} {t : List Tr}, TreesAt C F v t -> TreesAt C F' v t
 | _, _, .nil => .nil
 | _, _, .cons h1 h2 => .cons (h1.mono e) (h2.mono e)
end
theorem TreesAt.snoc {C : Addr} {F : Hp} {v : V} {t : Tr} (h : TreeAt C F v t) : ∀ {vs : List V} {ts : List Tr}, TreesAt C F vs ts -> TreesAt C F (vs ++ [v]) (ts ++ [t])
 | _, _, .nil => .cons h .nil
 | _, _, .cons h1 h2 => .cons h1 (h2.snoc h)
theorem TreesAt.len {C : Addr} {F : Hp} : ∀ {vs : List V} {ts : List Tr}, TreesAt C F vs ts -> vs.length = ts.length
 | _, _, .nil => rfl
 | _, _, .cons h1 h2 => by rw [List.length_cons, List.length_cons, h2.len]
theorem TreesAt.app {C : Addr} {F : Hp} : ∀ {vs : List V} {ts : List Tr} {ws : List V} {us : List Tr}, TreesAt C F vs ts -> TreesAt C F ws us -> TreesAt C F (vs ++ ws) (ts ++ us)
 | _, _, _, _, .nil, h => h
 | _, _, _, _, .cons h1 h2, h => .cons h1 (h2.app h)
structure Grow (r : Addr) (F0 H0 F H : Hp) : Prop where
 up : Same F0 F
 new : ∀ a o, F a = some o -> (∃ u, F0 a = some u) ∨ H0 a = none
 keep : ∀ a o, a ≠ r -> H0 a = some o -> H a = some o
theorem Grow.refl (r : Addr) (F H : Hp) : Grow r F H F H := ⟨Same.refl _, fun _ _ h => .inl ⟨_, h⟩, fun _ _ _ h => h⟩
theorem Grow.trans {r : Addr} {F0 H0 F1 H1 F2 H2 : Hp} (a : Grow r F0 H0 F1 H1) (b : Grow r F1 H1 F2 H2) (h2 : F2 r = none) : Grow r F0 H0 F2 H2 := by
 refine ⟨a.up.trans b.up, fun x o h => ?_, fun x o e h => b.keep x o e (a.keep x o e h)⟩
 rcases b.new x o h with ⟨u, hu⟩ | hn
 ·exact a.new x u hu
 ·by_cases e : x = r
  ·rw [e, h2] at h; cases h
  ·cases q : H0 x with
   | none => exact .inr rfl
   | some u => rw [a.keep x u e q] at hn; cases hn
def uO (tl : Addr) (i d : Nat) : List (Str × V) := [("tokens", .ref tl), ("at", .int i), ("depth", .int d)]
structure Rs (A : Ad) (r : Addr) (F H : Hp) (d : Nat) (ts : List Tk) : Prop where
 sub : Same F H
 fr : F r = none
 gd : Good ts
 le : ts.length <= 4097
 at_ : ∃ tl i dx vs tk, H r = some (.ins A.rdr dx (uO tl i d)) /\ F tl = some (.lst vs) /\ Toks (fun _ => True) A.tok F vs tk /\ tk.drop i = ts
theorem Rs.move {A : Ad} {r : Addr} {F H F' H' : Hp} {d : Nat} {ts : List Tk} (s : Rs A r F H d ts) (hF : Same F F') (hs : Same F' H') (hr : H' r = H r) (fr : F' r = none) : Rs A r F' H' d ts := by
 obtain ⟨tl, i, dx, vs, tk, h1, h2, h3, h4⟩ := s.at_
 exact ⟨hs, fr, s.gd, s.le, tl, i, dx, vs, tk, by rw [hr]; exact h1, hF _ _ h2, h3.same fun b o _ e => hF b o e, h4⟩
theorem Rs.rdr {A : Ad} {r : Addr} {F H : Hp} {d : Nat} {ts : List Tk} (s : Rs A r F H d ts) : ∃ dx fs, H r = some (.ins A.rdr dx fs) := let ⟨_, _, _, _, _, h, _⟩ := s.at_; ⟨_, _, h⟩
theorem Rs.tok {A : Ad} {r : Addr} {F H : Hp} {d : Nat} {ts : List Tk} (s : Rs A r F H d ts) : ∃ tl i dx vs v m, H r = some (.ins A.rdr dx (uO tl i d)) /\ F tl = some (.lst vs) /\ vs[i]? = some v /\ TokAt (fun _ => True) A.tok F v (next ts) m /\
  (∀ fl j dx', (next ts).kind ≠ 0 -> fl = uO tl (i + 1) j -> Rs A r F (upd H r (.ins A.rdr dx' fl)) j (ts.drop 1)) /\ (∀ fl j dx', fl = uO tl i j -> Rs A r F (upd H r (.ins A.rdr dx' fl)) j ts) /\
  ((next ts).kind ≠ 0 -> ∃ v' m', vs[i + 1]? = some v' /\ TokAt (fun _ => True) A.tok F v' (next (ts.drop 1)) m') := by
 obtain ⟨tl, i, dx, vs, tk, h1, h2, h3, h4⟩ := s.at_
 have hp := s.gd.pos
 have g : ∀ {j : Nat} {us : List Tk}, tk.drop j = us -> 0 < us.length -> ∃ v m, vs[j]? = some v /\ TokAt (fun _ => True) A.tok F v (next us) m := fun {j us} e l => by
  have : tk[j]? = some (next us) := by
   rw [<- e] at l ⊢
   unfold Vablda.next
   rw [List.head?_drop]
   rw [List.length_drop] at l
   rw [List.getElem?_eq_getElem (by omega)]; rfl
  exact h3.get this
 obtain ⟨v, m, hv, ht⟩ := g h4 hp
 have sb : ∀ o, Same F (upd H r o) := fun o b u e => by rw [al (az e s.fr)]; exact s.sub b u e
 refine ⟨tl, i, dx, vs, v, m, h1, h2, hv, ht, fun fl j dx' hk e => ?_, fun fl j dx' e => ?_, fun hk => ?_⟩
 ·subst e
  exact ⟨sb _, s.fr, s.gd.rest hk, by have := s.le; rw [List.length_drop]; omega, tl, i + 1, dx', vs, tk, af, h2, h3, by rw [<- h4, List.drop_drop]⟩
 ·subst e
  exact ⟨sb _, s.fr, s.gd, s.le, tl, i, dx', vs, tk, af, h2, h3, h4⟩
 ·exact g (j := i + 1) (by rw [<- h4, List.drop_drop]) (s.gd.rest hk).pos
theorem Grow.rdr {r : Addr} {F H : Hp} {o : HO} : Grow r F H F (upd H r o) := ⟨Same.refl _, fun _ _ h => .inl ⟨_, h⟩, fun a u e h => by rw [al e]; exact h⟩
theorem Rs.call {A : Ad} {r : Addr} {F H : Hp} {d : Nat} {ts : List Tk} (s : Rs A r F H d ts) {m : Str} {G : Prop} (hm : m ≠ "tokens" /\ m ≠ "at" /\ m ≠ "depth") (g : G) : ∃ dx fs, H r = some (.ins A.rdr dx fs) /\ fs.lookup m = none /\ G := by
 obtain ⟨tl, i, dx, vs, tk, h1, _⟩ := s.at_
 refine ⟨dx, _, h1, ?_, g⟩
 unfold uO
 simp [List.lookup, beq_eq_false_iff_ne.mpr hm.1, beq_eq_false_iff_ne.mpr hm.2.1, beq_eq_false_iff_ne.mpr hm.2.2]
end L2
namespace L2
open PySem PySem.Spec PyProof.Rows
open Vablda (Got next)
abbrev TkAt (A : Ad) (F : Hp) (v : V) (t : Tk) : Prop := ∃ m, TokAt (fun _ => True) A.tok F v t m
def kU (A : Ad) : Sp := sp1 fun a H Q _ => ∃ r F d ts, a = .ref r /\ Rs A r F H d ts /\ ∀ v, TkAt A F v (next ts) -> Q v H
def bQ (A : Ad) : Sp := sp2 fun a b H Q _ => ∃ r F d ts s, a = .ref r /\ b = .str s /\ Rs A r F H d ts /\ Q (.bl (decide (kd ts = s))) H
def mh (A : Ad) : Sp := sp1 fun a H Q _ => ∃ r F d ts, a = .ref r /\ Rs A r F H d ts /\ Q (.bl (decide (kd ts = "name") && decide (kd (ts.drop 1) = "="))) H
def d4 (A : Ad) : Sp := sp1 fun a H Q _ => ∃ r F d ts, a = .ref r /\ Rs A r F H d ts /\ (next ts).kind ≠ 0 /\ ∀ v H', Grow r F H F H' -> Rs A r F H' d (ts.drop 1) -> TkAt A F v (next ts) -> Q v H'
def bM (K : Frag) (A : Ad) : Sp := sp2 fun a b H Q E => ∃ r F d ts s, a = .ref r /\ b = .str s /\ s ≠ "end" /\ Rs A r F H d ts /\
 if kd ts = s then (∀ v H', Grow r F H F H' -> Rs A r F H' d (ts.drop 1) -> TkAt A F v (next ts) -> Q v H') else Fl K A.R E 3 (next ts).place
def dh (K : Frag) (A : Ad) : Sp := sp2 fun a b H Q E => ∃ r F d ts s, a = .ref r /\ b = .str s /\ s ≠ "end" /\ Rs A r F H d ts /\
 if kd ts = s then (if d = 12 then Fl K A.R E 4 (next ts).place else ∀ v H', Grow r F H F H' -> Rs A r F H' (d + 1) (ts.drop 1) -> TkAt A F v (next ts) -> Q v H') else Fl K A.R E 3 (next ts).place
def ci (K : Frag) (A : Ad) : Sp := sp2 fun a b H Q E => ∃ r F d ts s, a = .ref r /\ b = .str s /\ s ≠ "end" /\ Rs A r F H (d + 1) ts /\
 if kd ts = s then (∀ H', Grow r F H F H' -> Rs A r F H' d (ts.drop 1) -> Q .non H') else Fl K A.R E 3 (next ts).place
def wx (vs : List V) : List (Str × V) := match vs with
 | [t] => [("tokens", t), ("at", .int 0), ("depth", .int 0)]
 | _ => []
theorem Rs.ne0 {A : Ad} {r : Addr} {F H : Hp} {d : Nat} {ts : List Tk} {s : Str} (R : Rs A r F H d ts) (h : kd ts = s) (hs : s ≠ "end") : (next ts).kind ≠ 0 := fun e => hs (by rw [<- h]; exact (kQ R.gd).mp e)
theorem lc {A B : Prop} (h : B) : if true = false then A else B := by rw [if_neg (by decide)]; exact h
theorem iA {A B : Prop} (h : A) : if false = false then A else B := by rw [if_pos rfl]; exact h
section
variable {P : Program} {w : World} {K : Frag} {mg : Str -> Option Value} {base : Heap} {A : Ad} {k : Nat}
abbrev cz : Stmt := aG (top 99) 0
theorem iU : ai ["self", "tokens"] ["self", "tokens"] (ad cz) := by walk_at "sc"
theorem u6 {j : Nat} {f : Addr} {fd : FuncData} (F : Fun K "__init__" "Reader.__init__" cz f fd) (T : Txt P w K mg A) : FnOk P w K mg base (CXR P w) (j + 1) f fd ["self", "tokens"] (iG A.rdr 1 wx) := by
 refine F.okX iU (fun vs H Q E h => ?_) (fun cdv Ar outer s H vs Q E hr h => ⟨_, (a9 (ng T.cl_rdr T.na_rdr_tokens (q_v 0) (q_v 1)) (a9 (ng T.cl_rdr T.na_rdr_at (q_v 0) ap) (ac (ng T.cl_rdr T.na_rdr_depth (q_v 0) ap)))), ?_⟩)
 ·unfold iG at h
  split at h
  ·obtain ⟨h1, _⟩ := h; simp [h1]
  ·exact h.elim
 ·unfold iG at h
  split at h
  ·obtain ⟨h1, dx, h2, q⟩ := h
   rename_i p args
   match args, h1 with
   | [t'], _ =>
     walk_at "rd"
     refine ⟨_, _, h2, by decide, _, _, af, by (show 1 < 1000; decide), _, _, af, by (show 2 < 1000; decide), ?_⟩
     simp only [dX]
     exact q
  ·exact h.elim
abbrev d9 : Stmt := aG (top 33) 0
theorem kn : ai ["self", "kind", "place", "data", "parts"] ["self", "kind", "place", "data", "parts"] (ad d9) := by walk_at "sc"
theorem xG {j : Nat} {f : Addr} {fd : FuncData} (F : Fun K "__init__" "Tree.__init__" d9 f fd) (T : Txt P w K mg A) : FnOk P w K mg base (CXR P w) (j + 1) f fd ["self", "kind", "place", "data", "parts"] (iG A.tree 4 oB) := by
 refine F.okX kn (fun vs H Q E h => ?_) (fun cdv Ar outer s H vs Q E hr h => ⟨_, (a9 (ng T.cl_tree T.na_tree_kind (q_v 0) (q_v 1)) (a9 (ng T.cl_tree T.na_tree_place (q_v 0) (q_v 2)) (a9 (ng T.cl_tree T.na_tree_data (q_v 0) (q_v 3)) (ac (ng T.cl_tree T.na_tree_parts (q_v 0) (q_v 4)))))), ?_⟩)
 ·unfold iG at h
  split at h
  ·obtain ⟨h1, _⟩ := h; simp [h1]
  ·exact h.elim
 ·unfold iG at h
  split at h
  ·obtain ⟨h1, dx, h2, q⟩ := h
   rename_i p args
   match args, h1 with
   | [k', p', m', d'], _ =>
     walk_at "rd"
     refine ⟨_, _, h2, by decide, _, _, af, by (show 1 < 1000; decide), _, _, af, by (show 2 < 1000; decide), _, _, af, by (show 3 < 1000; decide), ?_⟩
     simp only [dX]
     exact q
  ·exact h.elim
abbrev eM : Stmt := aG (top 99) 1
theorem mV : ai ["self"] ["self"] (ad eM) := by walk_at "sc"
theorem mz (T : Txt P w K mg A) (F : Mh K A.rdr "seen" "Reader.seen" eM)   : Md P w K mg base A.rdr "seen" (k + 1) ["self"] (kU A) := by
 refine Md.of1 F mV (fun _ _ _ _ _ _ _ => rfl) fun g cdv Ar outer s H a Q E hr h => ⟨_, (ac (aj (eX (q_f T.cl_rdr T.na_rdr_tokens (q_v 0)) (q_f T.cl_rdr T.na_rdr_at (q_v 0))))), ?_⟩
 obtain ⟨r, F', d, ts, rfl, R, q⟩ := h
 obtain ⟨tl, i, dx, vs, v, m, h1, h2, h3, h4, _⟩ := R.tok
 walk_at "rd"
 exact ⟨dx, _, _, h1, rfl, dx, _, _, h1, rfl, vs, v, .inl (.inl (R.sub _ _ h2)), c7 rfl h3, q v ⟨m, h4⟩⟩
abbrev eJ : Stmt := aG (top 99) 2
theorem mI : ai ["self", "kind"] ["self", "kind"] (ad eJ) := by walk_at "sc"
theorem mE (T : Txt P w K mg A) (F : Mh K A.rdr "sees" "Reader.sees" eJ)   : Md P w K mg base A.rdr "sees" (k + 1) ["self", "kind"] (bQ A) := by
 refine Md.of2 F mI (fun _ _ _ _ _ _ _ _ => rfl) fun g cdv Ar outer s H a b Q E hr h => ⟨_, (ac (aj (cP bP (q_f T.cl_tok T.na_tok_kind (eX (q_f T.cl_rdr T.na_rdr_tokens (q_v 0)) (q_f T.cl_rdr T.na_rdr_at (q_v 0)))) (q_v 1) (by first | exact bq _ (by decide) (by decide) | rfl)))), ?_⟩
 obtain ⟨r, F', d, ts, z, rfl, rfl, R, q⟩ := h
 obtain ⟨tl, i, dx, vs, v, m, h1, h2, h3, ⟨a, dx', dl, rfl, _, h5, _⟩, _⟩ := R.tok
 walk_at "rd"
 exact ⟨dx, _, _, h1, rfl, dx, _, _, h1, rfl, vs, _, .inl (.inl (R.sub _ _ h2)), c7 rfl h3, dx', _, _, R.sub _ _ h5, rfl, q⟩
abbrev bT : Stmt := aG (top 99) 3
theorem gi : ai ["self"] ["self"] (ad bT) := by walk_at "sc"
theorem gk (T : Txt P w K mg A) (F : Mh K A.rdr "sees_giving" "Reader.sees_giving" bT) (ag : Md P w K mg base A.rdr "sees" k ["self", "kind"] (bQ A))  : Md P w K mg base A.rdr "sees_giving" (k + 1) ["self"] (mh A) := by
 refine Md.of1 F gi (fun _ _ _ _ _ _ _ => rfl) fun g cdv Ar outer s H a Q E hr h => ⟨_, (ac (aj (tN (q_m T.cl_rdr ag hr ae (q_v 0) (a8 aw aa)) (jm (cP bP (q_f T.cl_tok T.na_tok_kind (eX (q_f T.cl_rdr T.na_rdr_tokens (q_v 0)) (cq fZ (q_f T.cl_rdr T.na_rdr_at (q_v 0)) ap))) aw (by first | exact bq _ (by decide) (by decide) | rfl)))))), ?_⟩
 obtain ⟨r, F', d, ts, rfl, R, q⟩ := h
 obtain ⟨tl, i, dx, vs, v, m, h1, h2, h3, h4, _, _, h6⟩ := R.tok
 walk_at "rd"
 refine ⟨dx, _, h1, rfl, r, F', d, ts, _, rfl, rfl, R, ?_⟩
 by_cases e : kd ts = "name"
 ·obtain ⟨v', m', h7, a, dx', dl, rfl, _, h8, _⟩ := h6 (R.ne0 e (by decide))
  rw [decide_eq_true e, Bool.true_and] at q
  rw [decide_eq_true e]
  exact bU ⟨dx, _, _, h1, rfl, dx, _, _, h1, rfl, vs, _, .inl (.inl (R.sub _ _ h2)), c7 (j := i + 1) (by simp) h7, dx', _, _, R.sub _ _ h8, rfl, q⟩
 ·rw [decide_eq_false e, Bool.false_and] at q
  rw [decide_eq_false e]
  exact c9 q
abbrev em : Stmt := aG (top 99) 4
theorem gv : ai ["self", "token"] ["self"] (ad em) := by walk_at "sc"
theorem mM (T : Txt P w K mg A) (F : Mh K A.rdr "step" "Reader.step" em)   : Md P w K mg base A.rdr "step" (k + 1) ["self"] (d4 A) := by
 refine Md.of1 F gv (fun _ _ _ _ _ _ _ => rfl) fun g cdv Ar outer s H a Q E hr h => ⟨_, (a9 (aq (i := 1) (eX (q_f T.cl_rdr T.na_rdr_tokens (q_v 0)) (q_f T.cl_rdr T.na_rdr_at (q_v 0))) gv.nd) (a9 (yU T.cl_rdr T.na_rdr_at jt (q_v 0) ap) (ac (aj (q_v 1))))), ?_⟩
 obtain ⟨r, F', d, ts, rfl, R, hk, q⟩ := h
 obtain ⟨tl, i, dx, vs, v, m, h1, h2, h3, h4, h5, _⟩ := R.tok
 walk_at "rd"
 refine ⟨dx, _, _, h1, rfl, dx, _, _, h1, rfl, vs, v, .inl (.inl (R.sub _ _ h2)), c7 rfl h3, dx, _, _, h1, rfl, h1, by (show 3 < 1000; decide), ?_⟩
 exact q v _ Grow.rdr (h5 _ d dx hk rfl) ⟨m, h4⟩
abbrev et : Stmt := aG (top 99) 5
theorem mC : ai ["self", "kind"] ["self", "kind"] (ad et) := by walk_at "sc"
theorem mK (T : Txt P w K mg A) (F : Mh K A.rdr "take" "Reader.take" et) (ag : Md P w K mg base A.rdr "sees" k ["self", "kind"] (bQ A)) (aK : Md P w K mg base A.rdr "seen" k ["self"] (kU A)) (bH : Rz P w K mg base "SyntaxFault" A.R k 3) (ak : Md P w K mg base A.rdr "step" k ["self"] (d4 A))  : Md P w K mg base A.rdr "take" (k + 1) ["self", "kind"] (bM K A) := by
 refine Md.of2 F mC (fun _ _ _ _ _ _ _ _ => rfl) fun g cdv Ar outer s H a b Q E hr h => ⟨_, (a9 (aE (fL (c6 (q_m T.cl_rdr ag hr ae (q_v 0) (a8 (q_v 1) aa)))) (ac (mG bH hr bc (q_f T.cl_tok T.na_tok_place (gj T.cl_rdr aK hr ae (q_v 0))))) am) (ac (aj (gj T.cl_rdr ak hr ae (q_v 0))))), ?_⟩
 obtain ⟨r, F', d, ts, z, rfl, rfl, hz, R, q⟩ := h
 walk_at "rd"
 refine R.call (by decide) ⟨r, F', d, ts, z, rfl, rfl, R, ?_⟩
 by_cases e : kd ts = z
 ·rw [if_pos e] at q
  rw [decide_eq_true e]
  exact lc (R.call (by decide) ⟨r, F', d, ts, rfl, R, R.ne0 e hz, q⟩)
 ·rw [if_neg e] at q
  rw [decide_eq_false e]
  refine iA (R.call (by decide) ⟨r, F', d, ts, rfl, R, fun v' ht => ?_⟩)
  obtain ⟨m', a, dx', dl, rfl, _, h5, _⟩ := ht
  exact ⟨dx', _, _, R.sub _ _ h5, rfl, q⟩
abbrev dJ : Stmt := aG (top 99) 6
theorem gc : ai ["self", "bracket", "token"] ["self", "bracket"] (ad dJ) := by walk_at "sc"
theorem ly (T : Txt P w K mg A) (F : Mh K A.rdr "enter" "Reader.enter" dJ) (ah : Md P w K mg base A.rdr "take" k ["self", "kind"] (bM K A)) (ii : Rz P w K mg base "DeepFault" A.R k 4)  : Md P w K mg base A.rdr "enter" (k + 1) ["self", "bracket"] (dh K A) := by
 refine Md.of2 F gc (fun _ _ _ _ _ _ _ _ => rfl) fun g cdv Ar outer s H a b Q E hr h => ⟨_, (a9 (aq (i := 2) (q_m T.cl_rdr ah hr ae (q_v 0) (a8 (q_v 1) aa)) gc.nd) (a9 (aE (b7 bP (q_f T.cl_rdr T.na_rdr_depth (q_v 0)) (q_g T.g_MOST_BRACKETS)) (ac (mG ii hr bc (q_f T.cl_tok T.na_tok_place (q_v 2)))) am) (a9 (yU T.cl_rdr T.na_rdr_depth jt (q_v 0) ap) (ac (aj (q_v 2)))))), ?_⟩
 obtain ⟨r, F', d, ts, z, rfl, rfl, hz, R, q⟩ := h
 obtain ⟨tl, i, dx2, vs, v, m, h2, _⟩ := R.tok
 walk_at "rd"
 refine ⟨dx2, _, h2, rfl, r, F', d, ts, z, rfl, rfl, hz, R, ?_⟩
 by_cases e : kd ts = z
 ·rw [if_pos e] at q ⊢
  intro v' H' G R' ht
  obtain ⟨tl', i', dx3, vs', _, _, h3, _, _, _, _, h6, _⟩ := R'.tok
  refine ⟨dx3, _, _, h3, rfl, ?_⟩
  dsimp only
  by_cases hd : d = 12
  ·rw [if_pos hd] at q
   rw [if_pos (by omega)]
   obtain ⟨m', a, dx', dl, rfl, _, h5, _⟩ := ht
   exact ⟨dx', _, _, R'.sub _ _ h5, rfl, q⟩
  ·rw [if_neg hd] at q
   rw [if_neg (by omega)]
   refine ⟨dx3, _, _, h3, rfl, h3, by (show 3 < 1000; decide), ?_⟩
   exact q v' _ (G.trans Grow.rdr R'.fr) (h6 _ (d + 1) dx3 rfl) ht
 ·rw [if_neg e] at q ⊢
  exact q
abbrev dz : Stmt := aG (top 99) 7
theorem lr : ai ["self", "bracket"] ["self", "bracket"] (ad dz) := by walk_at "sc"
theorem lu (T : Txt P w K mg A) (F : Mh K A.rdr "leave" "Reader.leave" dz) (ah : Md P w K mg base A.rdr "take" k ["self", "kind"] (bM K A))  : Md P w K mg base A.rdr "leave" (k + 1) ["self", "bracket"] (ci K A) := by
 refine Md.of2 F lr (fun _ _ _ _ _ _ _ _ => rfl) fun g cdv Ar outer s H a b Q E hr h => ⟨_, (a9 (aA (q_m T.cl_rdr ah hr ae (q_v 0) (a8 (q_v 1) aa))) (ac (yU T.cl_rdr T.na_rdr_depth yE (q_v 0) ap))), ?_⟩
 obtain ⟨r, F', d, ts, z, rfl, rfl, hz, R, q⟩ := h
 obtain ⟨tl, i, dx2, vs, v, m, h2, _⟩ := R.tok
 walk_at "rd"
 refine ⟨dx2, _, h2, rfl, r, F', d + 1, ts, z, rfl, rfl, hz, R, ?_⟩
 by_cases e : kd ts = z
 ·rw [if_pos e] at q ⊢
  intro v' H' G R' ht
  obtain ⟨tl', i', dx3, vs', _, _, h3, _, _, _, _, h6, _⟩ := R'.tok
  refine ⟨dx3, _, _, h3, rfl, h3, by (show 3 < 1000; decide), ?_⟩
  exact q _ (G.trans Grow.rdr R'.fr) (h6 _ d dx3 (by
   have : ((d + 1 : Nat) : Int) - 1 = d := by omega
   rw [this]; rfl))
 ·rw [if_neg e] at q ⊢
  exact q
end
end L2
namespace L2
open PySem PySem.Spec PyProof.Rows
open Vablda (Got next)
structure Ll (A : Ad) (H0 F H : Hp) (p : Addr) (xs : List Tr) : Prop where
 at_ : ∃ vs, H p = some (.lst vs) /\ TreesAt A.tree F vs xs
 nf : F p = none
 nw : H0 p = none
def mW (A : Ad) : Sp := sp3 fun a b c H Q _ => ∃ F kk pp dl x, a = .int (kk : Nat) /\ b = .int (pp : Nat) /\ c = .ref dl /\ Same F H /\ F dl = some (.lst (bts x)) /\
 ∀ F' H' v, Same H H' -> Same F F' -> Same F' H' -> (∀ a o, F' a = some o -> (∃ u, F a = some u) ∨ H a = none) -> TreeAt A.tree F' v (.leaf kk x pp) -> Q v H'
def aX (A : Ad) : Sp := sp3 fun a b c H Q _ => ∃ F kk pp pl vs xs, a = .int (kk : Nat) /\ b = .int (pp : Nat) /\ c = .ref pl /\ Same F H /\ H pl = some (.lst vs) /\ F pl = none /\ TreesAt A.tree F vs xs /\
 ∀ F' H' v, Same H H' -> Same F F' -> Same F' H' -> (∀ a o, F' a = some o -> (∃ u, F a = some u) ∨ H a = none ∨ a = pl) -> TreeAt A.tree F' v (.node kk xs pp) -> Q v H'
def eQ (A : Ad) : Sp := sp2 fun a c H Q _ => ∃ F kk pl vs xs, a = .int (kk : Nat) /\ c = .ref pl /\ Same F H /\ H pl = some (.lst vs) /\ F pl = none /\ TreesAt A.tree F vs xs /\ xs ≠ [] /\
 ∀ F' H' v, Same H H' -> Same F F' -> Same F' H' -> (∀ a o, F' a = some o -> (∃ u, F a = some u) ∨ H a = none ∨ a = pl) -> TreeAt A.tree F' v (Vablda.alone kk xs) -> Q v H'
section
variable {P : Program} {w : World} {K : Frag} {mg : Str -> Option Value} {base : Heap} {A : Ad} {k : Nat}
abbrev sr : Stmt := top 34
theorem wC : ai ["kind", "place", "data"] ["kind", "place", "data"] (ad sr) := by walk_at "sc"
theorem wI (T : Txt P w K mg A) (F : Fd K mg "leaf" sr) (kK : Mkf P w K mg base "Tree" A.tree k 4 oB)  : Fn P w K mg base "leaf" (k + 1) ["kind", "place", "data"] (mW A) := by
 refine Fn.of3 F wC (fun _ _ _ _ _ _ _ _ _ => rfl) fun g cdv Ar outer s H a b c Q E hr h => ⟨_, (ac (aj (iC kK hr ae (a8 (q_v 0) (a8 (q_v 1) (a8 (q_v 2) (a8 (aJ aa) aa))))))), ?_⟩
 obtain ⟨F', kk, pp, dl, x, rfl, rfl, rfl, hs, hd, q⟩ := h
 walk_at "rd"
 refine ⟨by decide, fun pl hp => ⟨by trivial, fun a dx ha hdx hne => ?_⟩⟩
 have s1 : Same H (upd H pl (.lst [])) := Same.upd hp
 have s2 := bI (o := .ins A.tree dx (oB [.int kk, .int pp, .ref dl, .ref pl])) s1 ha hdx
 have hap : a ≠ pl := fun e => by rw [e, af] at ha; cases ha
 have hdp : dx ≠ pl := fun e => by rw [e, af] at hdx; cases hdx
 have fp : F' pl = none := hs.free hp
 have fa : F' a = none := (hs.trans s1).free ha
 have sF : Same F' (upd (upd F' pl (.lst [])) a (.ins A.tree dx (jT kk pp dl pl))) := fun b o e => by rw [al (az e fa), al (az e fp)]; exact e
 refine q (upd (upd F' pl (.lst [])) a (.ins A.tree dx (jT kk pp dl pl))) _ _ s2 sF (fun b o e => ?_) (fun b o e => ?_) ?_
 ·by_cases e1 : b = a
  ·subst e1; rw [af] at e ⊢; exact e
  ·rw [al e1] at e
   by_cases e2 : b = pl
   ·subst e2; rw [af] at e; rw [al e1, al hdp.symm, af]; exact e
   ·rw [al e2] at e
    exact s2 _ _ (hs _ _ e)
 ·by_cases e1 : b = a
  ·rw [e1]; exact .inr (s1.free ha)
  ·rw [al e1] at e
   by_cases e2 : b = pl
   ·rw [e2]; exact .inr hp
   ·rw [al e2] at e
    exact .inl ⟨_, e⟩
 ·refine TreeAt.mk (t := .leaf kk x pp) (dl := dl) (pl := pl) (dx := dx) (vs := []) af (sF _ _ hd) ?_ .nil
  rw [al hap.symm, af]
abbrev rO : Stmt := top 35
theorem wL : ai ["kind", "place", "parts"] ["kind", "place", "parts"] (ad rO) := by walk_at "sc"
theorem xH (T : Txt P w K mg A) (F : Fd K mg "node" rO) (kK : Mkf P w K mg base "Tree" A.tree k 4 oB)  : Fn P w K mg base "node" (k + 1) ["kind", "place", "parts"] (aX A) := by
 refine Fn.of3 F wL (fun _ _ _ _ _ _ _ _ _ => rfl) fun g cdv Ar outer s H a b c Q E hr h => ⟨_, (ac (aj (iC kK hr ae (a8 (q_v 0) (a8 (q_v 1) (a8 (aJ aa) (a8 (q_v 2) aa))))))), ?_⟩
 obtain ⟨F', kk, pp, pl, vs, xs, rfl, rfl, rfl, hs, hl, fp, ht, q⟩ := h
 walk_at "rd"
 refine ⟨by decide, fun dl hp => ⟨by trivial, fun a dx ha hdx hne => ?_⟩⟩
 have s1 : Same H (upd H dl (.lst [])) := Same.upd hp
 have s2 := bI (o := .ins A.tree dx (oB [.int kk, .int pp, .ref dl, .ref pl])) s1 ha hdx
 have hap : a ≠ dl := fun e => by rw [e, af] at ha; cases ha
 have hdp : dx ≠ dl := fun e => by rw [e, af] at hdx; cases hdx
 have hpd : pl ≠ dl := az hl hp
 have hpa : pl ≠ a := az (s1 _ _ hl) ha
 have fd : F' dl = none := hs.free hp
 have fa : F' a = none := (hs.trans s1).free ha
 have sF : Same F' (upd (upd (upd F' pl (.lst vs)) dl (.lst [])) a (.ins A.tree dx (jT kk pp dl pl))) := fun b o e => by rw [al (az e fa), al (az e fd), al (az e fp)]; exact e
 refine q (upd (upd (upd F' pl (.lst vs)) dl (.lst [])) a (.ins A.tree dx (jT kk pp dl pl))) _ _ s2 sF (fun b o e => ?_) (fun b o e => ?_) ?_
 ·by_cases e1 : b = a
  ·subst e1; rw [af] at e ⊢; exact e
  ·rw [al e1] at e
   by_cases e2 : b = dl
   ·subst e2; rw [af] at e; rw [al e1, al hdp.symm, af]; exact e
   ·rw [al e2] at e
    by_cases e3 : b = pl
    ·subst e3; rw [af] at e; cases e; exact s2 _ _ hl
    ·rw [al e3] at e; exact s2 _ _ (hs _ _ e)
 ·by_cases e1 : b = a
  ·rw [e1]; exact .inr (.inl (s1.free ha))
  ·rw [al e1] at e
   by_cases e2 : b = dl
   ·rw [e2]; exact .inr (.inl hp)
   ·rw [al e2] at e
    by_cases e3 : b = pl
    ·exact .inr (.inr e3)
    ·rw [al e3] at e
     exact .inl ⟨_, e⟩
 ·refine TreeAt.mk (t := .node kk xs pp) (dl := dl) (pl := pl) (dx := dx) (vs := vs) af ?_ ?_ (ht.mono sF)
  ·rw [al hap.symm, af]; rfl
  ·rw [al hpa, al hpd, af]
theorem TreeAt.kp {A : Ad} {F : Hp} {v : V} {t : Tr} (h : TreeAt A.tree F v t) : ∃ a dx dl pl, v = .ref a /\ F a = some (.ins A.tree dx (jT (Vablda.kindOf t) (Vablda.placeOf t) dl pl)) := by
 cases h with
 | mk h1 h2 h3 h4 => exact ⟨_, _, _, _, rfl, h1⟩
abbrev cw : Stmt := top 107
theorem jx : ai ["kind", "parts"] ["kind", "parts"] (ad cw) := by walk_at "sc"
theorem iL (T : Txt P w K mg A) (F : Fd K mg "node_of_several" cw) (ay : Fn P w K mg base "node" k ["kind", "place", "parts"] (aX A))  : Fn P w K mg base "node_of_several" (k + 1) ["kind", "parts"] (eQ A) := by
 refine Fn.of2 F jx (fun _ _ _ _ _ _ _ _ => rfl) fun g cdv Ar outer s H a b Q E hr h => ⟨_, (a9 (aE (b7 bP (cy (x := "len") T.b_len (q_v 1)) ap) (ac (aj (eX (q_v 1) ap))) am) (ac (aj (q_c ay hr ae (a8 (q_v 0) (a8 (q_f T.cl_tree T.na_tree_place (eX (q_v 1) ap)) (a8 (q_v 1) aa))))))), ?_⟩
 obtain ⟨F', kk, pl, vs, xs, rfl, rfl, hs, hl, fp, ht, hne, q⟩ := h
 walk_at "rd"
 refine ⟨_, .inl (.inl hl), ?_⟩
 rw [ht.len]
 cases ht with
 | nil => exact absurd rfl hne
 | cons h1 h2 =>
   rename_i v vs t ts
   cases h2 with
   | nil =>
     rw [if_pos (by simp)]
     refine ⟨_, v, .inl (.inl hl), c7 (j := 0) rfl rfl, ?_⟩
     exact q F' H v (Same.refl _) (Same.refl _) hs (fun a o e => .inl ⟨_, e⟩) h1
   | cons h3 h4 =>
     rename_i v2 vs t2 ts
     rw [if_neg (by simp; omega)]
     obtain ⟨a, dx, dl, pl2, rfl, ha⟩ := h1.kp
     refine ⟨_, _, .inl (.inl hl), c7 (j := 0) rfl rfl, dx, _, _, hs _ _ ha, rfl, F', kk, Vablda.placeOf t, pl, _, _, rfl, rfl, rfl, hs, hl, fp, .cons h1 (.cons h3 h4), q⟩
def Res (K : Frag) (A : Ad) (r : Addr) (F0 H0 : Hp) (d n0 : Nat) (g : Got) (Q : VK) (E : XK) : Prop := match g with
 | .ok (l, ts) => ∀ F' H' v t, l = [t] -> Grow r F0 H0 F' H' -> Rs A r F' H' d ts -> ts.length < n0 -> TreeAt A.tree F' v t -> Q v H'
 | .error e => Fl K A.R E e.kind e.place
def ResL (K : Frag) (A : Ad) (r : Addr) (F0 H0 : Hp) (d n0 : Nat) (g : Got) (Q : VK) (E : XK) : Prop := match g with
 | .ok (l, ts) => ∀ F' H' p, Grow r F0 H0 F' H' -> Rs A r F' H' d ts -> ts.length <= n0 -> l.length + ts.length <= n0 + 1 -> Ll A H0 F' H' p l -> Q (.ref p) H'
 | .error e => Fl K A.R E e.kind e.place
section
variable {r : Addr} {F0 H0 F H : Hp} {d d' n0 n1 : Nat} {ts : List Tk} {Q Q' : VK} {E : XK} {g : Got}
theorem aF {f : Tr -> List Tk -> Got} (hR : Res K A r F0 H0 d n0 (Vablda.one g f) Q E) (G : Grow r F0 H0 F H)
  (k : ∀ t ts' F' H' v, Grow r F0 H0 F' H' -> Grow r F H F' H' -> Rs A r F' H' d' ts' -> ts'.length < n1 -> TreeAt A.tree F' v t -> Res K A r F0 H0 d n0 (f t ts') Q E -> Q' v H') : Res K A r F H d' n1 g Q' E := by
 cases g with
 | error e => exact hR
 | ok x =>
   obtain ⟨l, ts'⟩ := x
   intro F' H' v t hl G' R' hlt ht
   subst hl
   exact k t ts' F' H' v (G.trans G' R'.fr) G' R' hlt ht hR
theorem eW {f : List Tr -> List Tk -> Got} (hR : Res K A r F0 H0 d n0 (Vablda.andThen g f) Q E) (G : Grow r F0 H0 F H)
  (k : ∀ l ts' F' H' p, Grow r F0 H0 F' H' -> Grow r F H F' H' -> Rs A r F' H' d' ts' -> ts'.length <= n1 -> l.length + ts'.length <= n1 + 1 -> Ll A H0 F' H' p l -> Res K A r F0 H0 d n0 (f l ts') Q E -> Q' (.ref p) H') : ResL K A r F H d' n1 g Q' E := by
 cases g with
 | error e => exact hR
 | ok x =>
   obtain ⟨l, ts'⟩ := x
   intro F' H' p G' R' hlt hlen ht
   refine k l ts' F' H' p (G.trans G' R'.fr) G' R' hlt hlen ⟨ht.at_, ht.nf, ?_⟩ hR
   cases e : H0 p with
   | none => rfl
   | some o =>
     have : p ≠ r := by
      rintro rfl
      obtain ⟨vs, h1, _⟩ := ht.at_
      obtain ⟨dx, fs, h2⟩ := R'.rdr
      rw [h1] at h2; cases h2
     have := G.keep p o this e
     rw [ht.nw] at this; cases this
theorem Res.up (hR : Res K A r F0 H0 d n0 g Q E) (G : Grow r F0 H0 F H) (h : n1 <= n0) : Res K A r F H d n1 g Q E := by
 cases g with
 | error e => exact hR
 | ok x =>
   obtain ⟨l, ts'⟩ := x
   intro F' H' v t hl G' R' hlt ht
   exact hR F' H' v t hl (G.trans G' R'.fr) R' (by omega) ht
theorem Res.out {t : Tr} {v : V} (hR : Res K A r F0 H0 d n0 (Vablda.got [t] ts) Q E) (G : Grow r F0 H0 F H) (R : Rs A r F H d ts) (h : ts.length < n0) (ht : TreeAt A.tree F v t) : Q v H := hR F H v t rfl G R h ht
end
section
variable {r : Addr} {F0 H0 F H : Hp} {d n0 : Nat} {ts : List Tk} {Q : VK} {E : XK}
theorem Rs.nr {p : Addr} {vs : List V} (R : Rs A r F H d ts) (h : H p = some (.lst vs)) : p ≠ r := by
 rintro rfl
 obtain ⟨dx, fs, h2⟩ := R.rdr
 rw [h] at h2; cases h2
theorem Rs.dr (R : Rs A r F H d ts) (h : (next ts).kind ≠ 0) : (ts.drop 1).length + 1 = ts.length := by
 have := R.gd.pos
 rw [List.length_drop]; omega
theorem qe {kk pp : Nat} {dl : Addr} {x : List Nat} (G : Grow r F0 H0 F H) (R : Rs A r F H d ts) (hd : F dl = some (.lst (bts x))) (k : ∀ F' H' v, Grow r F0 H0 F' H' -> Grow r F H F' H' -> Rs A r F' H' d ts -> TreeAt A.tree F' v (.leaf kk x pp) -> Q v H') : mW A [.int kk, .int pp, .ref dl] H Q E := by
 refine ⟨F, kk, pp, dl, x, rfl, rfl, rfl, R.sub, hd, fun F' H' v s1 s2 s3 nw ht => ?_⟩
 obtain ⟨dx, fs, hr⟩ := R.rdr
 have fr : F' r = none := by
  cases e : F' r with
  | none => rfl
  | some o => rcases nw r o e with ⟨u, hu⟩ | hn
              ·rw [R.fr] at hu; cases hu
              ·rw [hr] at hn; cases hn
 have G' : Grow r F H F' H' := ⟨s2, nw, fun a o _ h => s1 a o h⟩
 exact k F' H' v (G.trans G' fr) G' (R.move s2 s3 (by rw [hr]; exact s1 _ _ hr) fr) ht
theorem tE {F' H' : Hp} {pl : Addr} {xs : List Tr} (G : Grow r F0 H0 F H) (R : Rs A r F H d ts) (L : Ll A H0 F H pl xs) (s1 : Same H H') (s2 : Same F F') (s3 : Same F' H') (nw : ∀ a o, F' a = some o -> (∃ u, F a = some u) ∨ H a = none ∨ a = pl) : Grow r F0 H0 F' H' /\ Rs A r F' H' d ts := by
 obtain ⟨vs, hl, htr⟩ := L.at_
 obtain ⟨dx, fs, hr⟩ := R.rdr
 have hpr := R.nr hl
 have fr : F' r = none := by
  cases e : F' r with
  | none => rfl
  | some o => rcases nw r o e with ⟨u, hu⟩ | hn | hn
              ·rw [R.fr] at hu; cases hu
              ·rw [hr] at hn; cases hn
              ·exact absurd hn.symm hpr
 refine ⟨⟨G.up.trans s2, fun a o e => ?_, fun a o ne h => s1 a o (G.keep a o ne h)⟩, R.move s2 s3 (by rw [hr]; exact s1 _ _ hr) fr⟩
 rcases nw a o e with ⟨u, hu⟩ | hn | hn
 ·exact G.new a u hu
 ·by_cases ea : a = r
  ·rw [ea, hr] at hn; cases hn
  ·cases q : H0 a with
   | none => exact .inr rfl
   | some u => rw [G.keep a u ea q] at hn; cases hn
 ·rw [hn]; exact .inr L.nw
theorem aU {kk pp : Nat} {pl : Addr} {xs : List Tr} (G : Grow r F0 H0 F H) (R : Rs A r F H d ts) (L : Ll A H0 F H pl xs) (k : ∀ F' H' v, Grow r F0 H0 F' H' -> Rs A r F' H' d ts -> TreeAt A.tree F' v (.node kk xs pp) -> Same F F' -> (∀ p ys, p ≠ pl -> Ll A H0 F H p ys -> Ll A H0 F' H' p ys) -> Q v H') : aX A [.int kk, .int pp, .ref pl] H Q E := by
 obtain ⟨vs, hl, htr⟩ := L.at_
 refine ⟨F, kk, pp, pl, vs, xs, rfl, rfl, rfl, R.sub, hl, L.nf, htr, fun F' H' v s1 s2 s3 nw ht => ?_⟩
 obtain ⟨a, b⟩ := tE G R L s1 s2 s3 nw
 refine k F' H' v a b ht s2 fun p ys hne Lp => ?_
 obtain ⟨vs', h1, h2⟩ := Lp.at_
 refine ⟨⟨vs', s1 _ _ h1, h2.mono s2⟩, ?_, Lp.nw⟩
 cases e : F' p with
 | none => rfl
 | some o => rcases nw p o e with ⟨u, hu⟩ | hn | hn
             ·rw [Lp.nf] at hu; cases hu
             ·rw [h1] at hn; cases hn
             ·exact absurd hn hne
theorem iV {kk : Nat} {pl : Addr} {xs : List Tr} (G : Grow r F0 H0 F H) (R : Rs A r F H d ts) (L : Ll A H0 F H pl xs) (hne : xs ≠ []) (k : ∀ F' H' v, Grow r F0 H0 F' H' -> Rs A r F' H' d ts -> TreeAt A.tree F' v (Vablda.alone kk xs) -> Q v H') : eQ A [.int kk, .ref pl] H Q E := by
 obtain ⟨vs, hl, htr⟩ := L.at_
 refine ⟨F, kk, pl, vs, xs, rfl, rfl, R.sub, hl, L.nf, htr, hne, fun F' H' v s1 s2 s3 nw ht => ?_⟩
 obtain ⟨a, b⟩ := tE G R L s1 s2 s3 nw
 exact k F' H' v a b ht
theorem aL {p : Addr} {vs : List V} {xs : List Tr} (G : Grow r F0 H0 F H) (R : Rs A r F H d ts) (hp : H p = none) (ht : TreesAt A.tree F vs xs) : Grow r F0 H0 F (upd H p (.lst vs)) /\ Rs A r F (upd H p (.lst vs)) d ts /\ Ll A H0 F (upd H p (.lst vs)) p xs := by
 obtain ⟨dx, fs, hr⟩ := R.rdr
 have hpr : p ≠ r := fun e => by rw [e, hr] at hp; cases hp
 have s1 : Same H (upd H p (.lst vs)) := Same.upd hp
 refine ⟨⟨G.up, G.new, fun a o ne h => s1 a o (G.keep a o ne h)⟩, R.move (Same.refl _) (R.sub.trans s1) (al hpr.symm) R.fr, ⟨vs, af, ht⟩, R.sub.free hp, ?_⟩
 cases q : H0 p with
 | none => rfl
 | some u => rw [G.keep p u hpr q] at hp; cases hp
theorem cf {p : Addr} {vs : List V} {xs ys : List Tr} (G : Grow r F0 H0 F H) (R : Rs A r F H d ts) (L : Ll A H0 F H p xs) (ht : TreesAt A.tree F vs ys) : Grow r F0 H0 F (upd H p (.lst vs)) /\ Rs A r F (upd H p (.lst vs)) d ts /\ Ll A H0 F (upd H p (.lst vs)) p ys := by
 obtain ⟨ws, hl, _⟩ := L.at_
 have hpr := R.nr hl
 refine ⟨⟨G.up, G.new, fun a o ne h => ?_⟩, R.move (Same.refl _) (fun b o e => ?_) (al hpr.symm) R.fr, ⟨vs, af, ht⟩, L.nf, L.nw⟩
 ·rw [al (az h L.nw)]; exact G.keep a o ne h
 ·rw [al (az e L.nf)]; exact R.sub b o e
theorem Ll.grow {F' H' : Hp} {p : Addr} {xs : List Tr} {d' : Nat} {ts' : List Tk} (L : Ll A H0 F H p xs) (G : Grow r F H F' H') (R : Rs A r F H d ts) (R' : Rs A r F' H' d' ts') : Ll A H0 F' H' p xs := by
 obtain ⟨vs, hl, htr⟩ := L.at_
 refine ⟨⟨vs, G.keep p _ (R.nr hl) hl, htr.mono G.up⟩, ?_, L.nw⟩
 cases e : F' p with
 | none => rfl
 | some o => rcases G.new p o e with ⟨u, hu⟩ | hn
             ·rw [L.nf] at hu; cases hu
             ·rw [hl] at hn; cases hn
end
end
end L2
namespace L2
open PySem PySem.Spec PyProof.Rows
open Vablda (Got next got andThen one parse)
def spG (K : Frag) (A : Ad) (j : Nat) (G : Nat -> Nat -> List Tk -> Got) (c : Nat) : Sp := sp1 fun a H Q E => ∃ r F d ts n, a = .ref r /\ Rs A r F H d ts /\ (d <= 12 /\ 12 < d + j) /\ 20 * ts.length + c <= n /\ Res K A r F H d ts.length (G n d ts) Q E
def jn (b : List Tk -> Bool) (g : Got) (more : List Tk -> Got) : Got := one g fun x ts => if b ts = true then andThen (more (ts.drop 1)) fun l r => got (x :: l) r else got [x] ts
def jl (b : List Tk -> Bool) (more : List Tk -> Got) (xs : List Tr) (ts : List Tk) : Got := if b ts = true then andThen (more (ts.drop 1)) fun l r => got (xs ++ l) r else got xs ts
theorem uP (b : List Tk -> Bool) (g : Got) (more : List Tk -> Got) : jn b g more = one g fun x ts => jl b more [x] ts := rfl
theorem xS (b : List Tk -> Bool) (g : Got) (more : List Tk -> Got) (xs : List Tr) : (andThen (jn b g more) fun l r => got (xs ++ l) r) = one g fun x ts => jl b more (xs ++ [x]) ts := by
 unfold jn jl
 cases g with
 | error e => rfl
 | ok y =>
   obtain ⟨l, ts⟩ := y
   show andThen (if b ts = true then _ else _) _ = if b ts = true then _ else _
   by_cases hb : b ts = true
   ·rw [if_pos hb, if_pos hb]
    cases more (ts.drop 1) with
    | error e => rfl
    | ok z => simp [andThen, got]
   ·rw [if_neg hb, if_neg hb]; rfl
theorem br (g : Got) (f : Tr -> List Tk -> Got) (h : List Tr -> List Tk -> Got) : andThen (one g f) h = one g fun x ts => andThen (f x ts) h := by cases g <;> rfl
theorem eT (g : Got) (f : List Tr -> List Tk -> Got) (h : List Tr -> List Tk -> Got) : andThen (andThen g f) h = andThen g fun x ts => andThen (f x ts) h := by cases g <;> rfl
theorem wJ (g : Got) (f : Tr -> List Tk -> Got) (h : Tr -> List Tk -> Got) : one (one g f) h = one g fun x ts => one (f x ts) h := by cases g <;> rfl
section
variable {P : Program} {w : World} {K : Frag} {mg : Str -> Option Value} {base : Heap} {A : Ad} {k k0 : Nat}
section
variable {r : Addr} {F0 H0 F H : Hp} {d d' n0 n1 : Nat} {ts : List Tk} {Q Q' : VK} {E : XK} {g : Got}
theorem oa {f : Tr -> List Tk -> Got} (hR : ResL K A r F0 H0 d n0 (one g f) Q E) (G : Grow r F0 H0 F H)
  (k : ∀ t ts' F' H' v, Grow r F0 H0 F' H' -> Grow r F H F' H' -> Rs A r F' H' d' ts' -> ts'.length < n1 -> TreeAt A.tree F' v t -> ResL K A r F0 H0 d n0 (f t ts') Q E -> Q' v H') : Res K A r F H d' n1 g Q' E := by
 cases g with
 | error e => exact hR
 | ok x =>
   obtain ⟨l, ts'⟩ := x
   intro F' H' v t hl G' R' hlt ht
   subst hl
   exact k t ts' F' H' v (G.trans G' R'.fr) G' R' hlt ht hR
theorem Ll.back {p : Addr} {xs : List Tr} {F' H' : Hp} {d' : Nat} {ts' : List Tk} (L : Ll A H F' H' p xs) (G : Grow r F0 H0 F H) (R' : Rs A r F' H' d' ts') : Ll A H0 F' H' p xs := by
 refine ⟨L.at_, L.nf, ?_⟩
 obtain ⟨vs, h1, _⟩ := L.at_
 cases e : H0 p with
 | none => rfl
 | some o =>
   have := G.keep p o (R'.nr h1) e
   rw [L.nw] at this; cases this
theorem ResL.up (hR : ResL K A r F0 H0 d n0 g Q E) (G : Grow r F0 H0 F H) (h : n1 <= n0) : ResL K A r F H d n1 g Q E := by
 cases g with
 | error e => exact hR
 | ok x =>
   obtain ⟨l, ts'⟩ := x
   intro F' H' p G' R' hlt hlen L
   exact hR F' H' p (G.trans G' R'.fr) R' (by omega) (by omega) (L.back G R')
theorem ResL.out {p : Addr} {xs : List Tr} (hR : ResL K A r F0 H0 d n0 (got xs ts) Q E) (G : Grow r F0 H0 F H) (R : Rs A r F H d ts) (h : ts.length <= n0) (hl : xs.length + ts.length <= n0 + 1) (L : Ll A H0 F H p xs) : Q (.ref p) H := hR F H p G R h hl L
end
def jA (P : Program) (w : World) (K : Frag) (mg : Str -> Option Value) (base : Heap) (A : Ad) (k0 : Nat) : Sp := sp4 fun a b c f H Q E => ∃ (r : Addr) (F : Hp) (d : Nat) (ts : List Tk) (n kk : Nat) (wd : Str) (j : Nat) (G : Nat -> Nat -> List Tk -> Got) (L : Nat -> List Tk -> Got) (c0 : Nat) (tb : List Tk -> Bool), a = .ref r /\ b = .int (kk : Nat) /\ c = .str wd /\ wd ≠ "end" /\ lZ P w K mg base k0 f (spG K A j G c0) /\ Rs A r F H d ts /\ (d <= 12 /\ 12 < d + j) /\
 20 * ts.length + c0 + 1 <= n /\ (∀ ts, Good ts -> tb ts = decide (kd ts = wd)) /\ (∀ m ts, L (m + 1) ts = jn tb (G m d ts) (L m)) /\ Res K A r F H d ts.length (andThen (L n ts) fun l q => got [Vablda.alone kk l] q) Q E
abbrev eK : Stmt := top 106
theorem gZ : ai ["reader", "kind", "word", "read_part", "parts"] ["reader", "kind", "word", "read_part"] (ad eK) := by walk_at "sc"
theorem lP (T : Txt P w K mg A) (F : Fd K mg "read_joined" eK) (ag : Md P w K mg base A.rdr "sees" k ["self", "kind"] (bQ A)) (ak : Md P w K mg base A.rdr "step" k ["self"] (d4 A)) (aO : Fn P w K mg base "node_of_several" k ["kind", "parts"] (eQ A)) (hk : k0 <= k) : Fn P w K mg base "read_joined" (k + 1) ["reader", "kind", "word", "read_part"] (jA P w K mg base A k0) := by
 refine Fn.of4 F gZ (fun _ _ _ _ _ _ _ _ _ _ => rfl) fun g cdv Ar outer s H a b c d Q E hr h => ⟨_, (a9 (aq (i := 4) (aJ (a8 (eR 3 ae (a8 (q_v 0) aa)) aa)) gZ.nd) (a9 (bp (bv PassesOwn.leaving (c6 (q_m T.cl_rdr ag hr ae (q_v 0) (a8 (q_v 2) aa))) (a9 (aA (gj T.cl_rdr ak hr ae (q_v 0))) (ac (aA (cD (q_v 4) (eR 3 ae (a8 (q_v 0) aa)))))))) (ac (aj (q_c aO hr ae (a8 (q_v 1) (a8 (q_v 4) aa))))))), ?_⟩
 obtain ⟨r, F', d, ts, n, kk, wd, j, G, L, c0, tb, rfl, rfl, rfl, hwd, ⟨f, fd, ps, rfl, Ff, fk, fb⟩, R, hd, hn, htb, hL, hR⟩ := h
 obtain ⟨n, rfl⟩ : ∃ m, n = m + 1 := ⟨n - 1, by omega⟩
 rw [hL, uP, br] at hR
 walk_at "rd"
 refine ⟨f, fd, ps, _, k0, rfl, Ff, hr.mono hk, fk, fb, r, F', d, ts, n, rfl, R, hd, by omega, aF hR (Grow.refl _ _ _) fun t ts1 F1 H1 v G1 _ R1 hlt ht hR1 => ⟨(by rw [sizeLine_eq]; decide), fun p hp => ?_⟩⟩
 obtain ⟨G2, R2, L2⟩ := aL (vs := [v]) (xs := [t]) G1 R1 hp (.cons ht .nil)
 refine bo (fun σ H' => ∃ F'' ts' xs, σ = [some (.ref r), some (.int kk), some (.str wd), some (.ref f), some (.ref p)] /\ Grow r F' H F'' H' /\ Rs A r F'' H' d ts' /\ ts'.length < ts.length /\ Ll A H F'' H' p xs /\ xs ≠ [] /\ Res K A r F' H d ts.length (got [Vablda.alone kk xs] ts') Q E)
  (Exists.intro (fun m σ H' => ∃ F'' ts' xs n', σ = [some (.ref r), some (.int kk), some (.str wd), some (.ref f), some (.ref p)] /\ m = ts'.length /\ Grow r F' H F'' H' /\ Rs A r F'' H' d ts' /\ ts'.length < ts.length /\ xs.length + ts'.length <= ts.length + 1 /\ Ll A H F'' H' p xs /\ xs ≠ [] /\ 20 * ts'.length + c0 <= n' + 19 /\
   Res K A r F' H d ts.length (andThen (jl tb (L n') xs ts') fun l q => got [Vablda.alone kk l] q) Q E) ⟨⟨_, F1, ts1, [t], n, rfl, rfl, G2, R2, hlt, by simp; omega, L2, by simp, by omega, hR1⟩, ?_⟩) ?_
 ·rintro m σ H' ⟨F2, ts2, xs, n', rfl, rfl, G3, R3, hl3, hlen, L3, hne, hb, hR3⟩
  walk_at "rd"
  refine R3.call (by decide) ⟨r, F2, d, ts2, wd, rfl, rfl, R3, ?_⟩
  unfold jl at hR3
  rw [htb ts2 R3.gd] at hR3
  by_cases e : kd ts2 = wd
  ·rw [decide_eq_true e] at hR3 ⊢
   rw [if_pos rfl] at hR3
   have hk0 := R3.ne0 e hwd
   have hdr := R3.dr hk0
   obtain ⟨n', rfl⟩ : ∃ m, n' = m + 1 := ⟨n' - 1, by omega⟩
   rw [hL, xS, br] at hR3
   refine bU ⟨_, fun _ _ h => h, R3.call (by decide) ⟨r, F2, d, ts2, rfl, R3, hk0, fun v4 H4 G4 R4 _ => ?_⟩⟩
   obtain ⟨vs, hvs, htr⟩ := L3.at_
   have L4 := L3.grow G4 R3 R4
   obtain ⟨vs4, hvs4, htr4⟩ := L4.at_
   refine ⟨⟨_, hvs4⟩, f, fd, ps, _, k0, rfl, Ff, hr.mono hk, fk, fb, r, F2, d, ts2.drop 1, n', rfl, R4, hd, by omega, aF hR3 (G3.trans G4 R4.fr) fun t5 ts5 F5 H5 v5 G5 g5 R5 hlt5 ht5 hR5 => ?_⟩
   have L5 := L4.grow g5 R4 R5
   obtain ⟨vs5, hvs5, htr5⟩ := L5.at_
   refine ⟨vs5, hvs5, ?_, ?_⟩
   ·rw [htr5.len, sizeLine_eq]; have := R3.le; have := R.le; omega
   ·obtain ⟨G6, R6, L6⟩ := cf G5 R5 L5 (htr5.snoc ht5)
    exact ⟨_, by omega, F5, ts5, xs ++ [t5], n', rfl, rfl, G6, R6, by omega, by simp; omega, L6, by simp, by omega, hR5⟩
  ·rw [decide_eq_false e] at hR3 ⊢
   rw [if_neg (by decide)] at hR3
   exact c9 ⟨F2, ts2, xs, by trivial, G3, R3, hl3, L3, hne, hR3⟩
 ·rintro σ H' ⟨F2, ts2, xs, rfl, G3, R3, hl3, L3, hne, hR3⟩
  walk_at "rd"
  exact iV G3 R3 L3 hne fun F4 H4 v4 G4 R4 ht4 => hR3.out G4 R4 hl3 ht4
def gI (P : Program) (w : World) (K : Frag) (mg : Str -> Option Value) (base : Heap) (A : Ad) (k0 : Nat) : Sp := sp3 fun a b f H Q E => ∃ (r : Addr) (F : Hp) (d : Nat) (ts : List Tk) (n : Nat) (t : Tr) (j : Nat) (G : Nat -> Nat -> List Tk -> Got) (L : Nat -> List Tk -> Got) (c0 : Nat), a = .ref r /\ TreeAt A.tree F b t /\ lZ P w K mg base k0 f (spG K A j G c0) /\ Rs A r F H d ts /\ (d <= 12 /\ 12 < d + j) /\
 20 * ts.length + c0 <= n + 19 /\ (∀ m ts, L (m + 1) ts = jn (Vablda.isSign ",") (G m d ts) (L m)) /\ ResL K A r F H d ts.length (jl (Vablda.isSign ",") (L n) [t] ts) Q E
abbrev ca : Stmt := top 119
theorem cW : ai ["reader", "first", "read_part", "parts"] ["reader", "first", "read_part"] (ad ca) := by walk_at "sc"
theorem gS (T : Txt P w K mg A) (F : Fd K mg "read_behind_first" ca) (ag : Md P w K mg base A.rdr "sees" k ["self", "kind"] (bQ A)) (ak : Md P w K mg base A.rdr "step" k ["self"] (d4 A)) (hk : k0 <= k) : Fn P w K mg base "read_behind_first" (k + 1) ["reader", "first", "read_part"] (gI P w K mg base A k0) := by
 refine Fn.of3 F cW (fun _ _ _ _ _ _ _ _ _ => rfl) fun g cdv Ar outer s H a b c Q E hr h => ⟨_, (a9 (aq (i := 3) (aJ (a8 (q_v 1) aa)) cW.nd) (a9 (bp (bv PassesOwn.leaving (c6 (q_m T.cl_rdr ag hr ae (q_v 0) (a8 aw aa))) (a9 (aA (gj T.cl_rdr ak hr ae (q_v 0))) (ac (aA (cD (q_v 3) (eR 2 ae (a8 (q_v 0) aa)))))))) (ac (aj (q_v 3))))), ?_⟩
 obtain ⟨r, F', d, ts, n, t, j, G, L, c0, rfl, hb, ⟨f, fd, ps, rfl, Ff, fk, fb⟩, R, hd, hn, hL, hR⟩ := h
 walk_at "rd"
 refine ⟨(by rw [sizeLine_eq]; decide), fun p hp => ?_⟩
 obtain ⟨G2, R2, L2⟩ := aL (vs := [b]) (xs := [t]) (Grow.refl r F' H) R hp (.cons hb .nil)
 refine bo (fun σ H' => ∃ F'' ts' xs, σ = [some (.ref r), some b, some (.ref f), some (.ref p)] /\ Grow r F' H F'' H' /\ Rs A r F'' H' d ts' /\ ts'.length <= ts.length /\ xs.length + ts'.length <= ts.length + 1 /\ Ll A H F'' H' p xs /\ ResL K A r F' H d ts.length (got xs ts') Q E)
  (Exists.intro (fun m σ H' => ∃ F'' ts' xs n', σ = [some (.ref r), some b, some (.ref f), some (.ref p)] /\ m = ts'.length /\ Grow r F' H F'' H' /\ Rs A r F'' H' d ts' /\ ts'.length <= ts.length /\ xs.length + ts'.length <= ts.length + 1 /\ Ll A H F'' H' p xs /\ 20 * ts'.length + c0 <= n' + 19 /\
   ResL K A r F' H d ts.length (jl (Vablda.isSign ",") (L n') xs ts') Q E) ⟨⟨_, F', ts, [t], n, rfl, rfl, G2, R2, by omega, by simp; omega, L2, hn, hR⟩, ?_⟩) ?_
 ·rintro m σ H' ⟨F2, ts2, xs, n', rfl, rfl, G3, R3, hl3, hlen, L3, hb3, hR3⟩
  walk_at "rd"
  refine R3.call (by decide) ⟨r, F2, d, ts2, ",", rfl, rfl, R3, ?_⟩
  unfold jl at hR3
  rw [aM R3.gd] at hR3
  by_cases e : kd ts2 = ","
  ·rw [decide_eq_true e] at hR3 ⊢
   rw [if_pos rfl] at hR3
   have hk0 := R3.ne0 e (by decide)
   have hdr := R3.dr hk0
   obtain ⟨n', rfl⟩ : ∃ m, n' = m + 1 := ⟨n' - 1, by omega⟩
   rw [hL, xS] at hR3
   refine bU ⟨_, fun _ _ h => h, R3.call (by decide) ⟨r, F2, d, ts2, rfl, R3, hk0, fun v4 H4 G4 R4 _ => ?_⟩⟩
   have L4 := L3.grow G4 R3 R4
   obtain ⟨vs4, hvs4, htr4⟩ := L4.at_
   refine ⟨⟨_, hvs4⟩, f, fd, ps, _, k0, rfl, Ff, hr.mono hk, fk, fb, r, F2, d, ts2.drop 1, n', rfl, R4, hd, by omega, oa hR3 (G3.trans G4 R4.fr) fun t5 ts5 F5 H5 v5 G5 g5 R5 hlt5 ht5 hR5 => ?_⟩
   have L5 := L4.grow g5 R4 R5
   obtain ⟨vs5, hvs5, htr5⟩ := L5.at_
   refine ⟨vs5, hvs5, ?_, ?_⟩
   ·rw [htr5.len, sizeLine_eq]; have := R3.le; have := R.le; omega
   ·obtain ⟨G6, R6, L6⟩ := cf G5 R5 L5 (htr5.snoc ht5)
    exact ⟨_, by omega, F5, ts5, xs ++ [t5], n', rfl, rfl, G6, R6, by omega, by simp; omega, L6, by omega, hR5⟩
  ·rw [decide_eq_false e] at hR3 ⊢
   rw [if_neg (by decide)] at hR3
   exact c9 ⟨F2, ts2, xs, by trivial, G3, R3, hl3, hlen, L3, hR3⟩
 ·rintro σ H' ⟨F2, ts2, xs, rfl, G3, R3, hl3, hlen, L3, hR3⟩
  walk_at "rd"
  exact hR3.out G3 R3 hl3 hlen L3
def qS (P : Program) (w : World) (K : Frag) (mg : Str -> Option Value) (base : Heap) (A : Ad) (k0 : Nat) : Sp := sp3 fun a c f H Q E => ∃ (r : Addr) (F : Hp) (d : Nat) (ts : List Tk) (n : Nat) (cl : Str) (j : Nat) (G : Nat -> Nat -> List Tk -> Got) (L : Nat -> List Tk -> Got) (c0 : Nat), a = .ref r /\ c = .str cl /\ lZ P w K mg base k0 f (spG K A j G c0) /\ Rs A r F H d ts /\ (d <= 12 /\ 12 < d + j) /\
 20 * ts.length + c0 + 1 <= n /\ (∀ m ts, L (m + 1) ts = jn (Vablda.isSign ",") (G m d ts) (L m)) /\ ResL K A r F H d ts.length (if decide (kd ts = cl) = true then got [] ts else L n ts) Q E
abbrev iK : Stmt := top 118
theorem rk : ai ["reader", "closing", "read_part"] ["reader", "closing", "read_part"] (ad iK) := by walk_at "sc"
theorem qJ (T : Txt P w K mg A) (F : Fd K mg "read_row" iK) (ag : Md P w K mg base A.rdr "sees" k ["self", "kind"] (bQ A)) (bb : Fn P w K mg base "read_behind_first" k ["reader", "first", "read_part"] (gI P w K mg base A k0)) (hk : k0 <= k) : Fn P w K mg base "read_row" (k + 1) ["reader", "closing", "read_part"] (qS P w K mg base A k0) := by
 refine Fn.of3 F rk (fun _ _ _ _ _ _ _ _ _ => rfl) fun g cdv Ar outer s H a b c Q E hr h => ⟨_, (a9 (aE (c6 (q_m T.cl_rdr ag hr ae (q_v 0) (a8 (q_v 1) aa))) (ac (aj (aJ aa))) am) (ac (aj (q_c bb hr ae (a8 (q_v 0) (a8 (eR 2 ae (a8 (q_v 0) aa)) (a8 (q_v 2) aa))))))), ?_⟩
 obtain ⟨r, F', d, ts, n, cl, j, G, L, c0, rfl, rfl, ⟨f, fd, ps, rfl, Ff, fk, fb⟩, R, hd, hn, hL, hR⟩ := h
 walk_at "rd"
 refine R.call (by decide) ⟨r, F', d, ts, cl, rfl, rfl, R, ?_⟩
 by_cases e : kd ts = cl
 ·rw [decide_eq_true e] at hR ⊢
  rw [if_pos rfl] at hR
  refine bU ⟨by decide, fun p hp => ?_⟩
  obtain ⟨G2, R2, L2⟩ := aL (vs := []) (xs := []) (Grow.refl r F' H) R hp .nil
  exact hR.out G2 R2 (by omega) (by simp) L2
 ·rw [decide_eq_false e] at hR ⊢
  rw [if_neg (by decide)] at hR
  obtain ⟨n, rfl⟩ : ∃ m, n = m + 1 := ⟨n - 1, by omega⟩
  rw [hL, uP] at hR
  refine c9 ⟨f, fd, ps, _, k0, rfl, Ff, hr.mono hk, fk, fb, r, F', d, ts, n, rfl, R, hd, by omega, oa hR (Grow.refl _ _ _) fun t ts1 F1 H1 v G1 _ R1 hlt ht hR1 => ?_⟩
  exact ⟨r, F1, d, ts1, n, t, j, G, L, c0, rfl, ht, ⟨f, fd, ps, rfl, Ff, fk, fb⟩, R1, hd, by omega, hL, hR1.up G1 (by omega)⟩
def lI (P : Program) (w : World) (K : Frag) (mg : Str -> Option Value) (base : Heap) (A : Ad) (k0 : Nat) : Sp := sp4 fun a b c f H Q E => ∃ (r : Addr) (F : Hp) (d : Nat) (ts : List Tk) (n kk : Nat) (sg : Addr) (ss : List Str) (which : List Tk -> Option Nat) (j : Nat) (G : Nat -> Nat -> List Tk -> Got) (L : Nat -> List Tk -> Got) (c0 : Nat), a = .ref r /\ b = .int (kk : Nat) /\ c = .ref sg /\ F sg = none /\ H sg = some (.tup (ss.map V.str)) /\ ("end" : Str) ∉ ss /\
 (∀ ts, Good ts -> match which ts with | some m => kd ts ∈ ss /\ aZ cU (Sum.inr (kd ts)) = some (.int (m : Nat)) | none => kd ts ∉ ss) /\
 lZ P w K mg base k0 f (spG K A j G c0) /\ Rs A r F H d ts /\ (d <= 12 /\ 12 < d + j) /\ 20 * ts.length + c0 <= n /\ (∀ m ts, L (m + 1) ts = Vablda.tailOf which (fun u => G m d u) (L m) ts) /\
 Res K A r F H d ts.length (one (G n d ts) fun x u => andThen (L n u) fun l q => got [Vablda.alone kk (x :: l)] q) Q E
theorem sM (x : Str) (ss : List Str) : inV (.str x) (ss.map V.str) = decide (x ∈ ss) := by
 unfold inV
 rw [List.any_map]
 induction ss with
 | nil => rfl
 | cons a ss ih =>
   rw [List.any_cons, ih]
   show ((a == x) || _) = _
   by_cases h : a = x
   ·simp [h]
   ·have h2 : ¬ x = a := fun e => h e.symm
    simp [h, h2]
theorem u9 (ss : List Str) : (ss.map V.str).all gy = true := by
 rw [List.all_map]; induction ss with
 | nil => rfl
 | cons a ss ih => rw [List.all_cons, ih]; rfl
abbrev fY : Stmt := top 112
theorem cS : ai ["reader", "kind", "signs", "read_part", "parts", "sign", "part"] ["reader", "kind", "signs", "read_part"] (ad fY) := by walk_at "sc"
theorem nW (T : Txt P w K mg A) (F : Fd K mg "read_signs" fY) (aK : Md P w K mg base A.rdr "seen" k ["self"] (kU A)) (ak : Md P w K mg base A.rdr "step" k ["self"] (d4 A)) (ay : Fn P w K mg base "node" k ["kind", "place", "parts"] (aX A)) (aO : Fn P w K mg base "node_of_several" k ["kind", "parts"] (eQ A)) (hk : k0 <= k) : Fn P w K mg base "read_signs" (k + 1) ["reader", "kind", "signs", "read_part"] (lI P w K mg base A k0) := by
 refine Fn.of4 F cS (fun _ _ _ _ _ _ _ _ _ _ => rfl) fun g cdv Ar outer s H a b c d Q E hr h => ⟨_, (a9 (aq (i := 4) (aJ (a8 (eR 3 ae (a8 (q_v 0) aa)) aa)) cS.nd) (a9 (bp (bv PassesOwn.leaving (b7 yA (q_f T.cl_tok T.na_tok_kind (gj T.cl_rdr aK hr ae (q_v 0))) (q_v 2)) (a9 (aq (i := 5) (gj T.cl_rdr ak hr ae (q_v 0)) cS.nd) (a9 (aq (i := 6) (eR 3 ae (a8 (q_v 0) aa)) cS.nd) (ac (aA (cD (q_v 4) (q_c ay hr ae (a8 (p9 T.t_SIGN_NODES (q_g T.g_SIGN_NODES) (q_f T.cl_tok T.na_tok_kind (q_v 5))) (a8 (q_f T.cl_tok T.na_tok_place (q_v 5)) (a8 (aJ (a8 (q_v 6) aa)) aa))))))))))) (ac (aj (q_c aO hr ae (a8 (q_v 1) (a8 (q_v 4) aa))))))), ?_⟩
 obtain ⟨r, F', d, ts, n, kk, sg, ss, which, j, G, L, c0, rfl, rfl, rfl, sgf, hsg, hse, hw, ⟨f, fd, ps, rfl, Ff, fk, fb⟩, R, hd, hn, hL, hR⟩ := h
 walk_at "rd"
 refine ⟨f, fd, ps, _, k0, rfl, Ff, hr.mono hk, fk, fb, r, F', d, ts, n, rfl, R, hd, by omega, aF hR (Grow.refl _ _ _) fun t ts1 F1 H1 v G1 _ R1 hlt ht hR1 => ⟨(by rw [sizeLine_eq]; decide), fun p hp => ?_⟩⟩
 obtain ⟨G2, R2, L2⟩ := aL (vs := [v]) (xs := [t]) G1 R1 hp (.cons ht .nil)
 have sgr : sg ≠ r := fun z => by obtain ⟨dx, fs, h⟩ := R.rdr; rw [z, h] at hsg; cases hsg
 refine bo (fun σ H' => ∃ F'' ts' xs x y, σ = [some (.ref r), some (.int kk), some (.ref sg), some (.ref f), some (.ref p), x, y] /\ Grow r F' H F'' H' /\ Rs A r F'' H' d ts' /\ ts'.length < ts.length /\ Ll A H F'' H' p xs /\ xs ≠ [] /\ Res K A r F' H d ts.length (got [Vablda.alone kk xs] ts') Q E)
  (Exists.intro (fun m σ H' => ∃ F'' ts' xs n' x y, σ = [some (.ref r), some (.int kk), some (.ref sg), some (.ref f), some (.ref p), x, y] /\ m = ts'.length /\ Grow r F' H F'' H' /\ Rs A r F'' H' d ts' /\ ts'.length < ts.length /\ xs.length + ts'.length <= ts.length + 1 /\ Ll A H F'' H' p xs /\ xs ≠ [] /\ 20 * ts'.length + c0 <= n' + 19 /\ 0 < n' /\
   Res K A r F' H d ts.length (andThen (L n' ts') fun l q => got [Vablda.alone kk (xs ++ l)] q) Q E) ⟨⟨_, F1, ts1, [t], n, none, none, rfl, rfl, G2, R2, hlt, by simp; omega, L2, by simp, by omega, by have := R1.gd.pos; omega, hR1⟩, ?_⟩) ?_
 ·rintro m σ H' ⟨F2, ts2, xs, n', x, y, rfl, rfl, G3, R3, hl3, hlen, L3, hne, hb, hn0, hR3⟩
  walk_at "rd"
  refine R3.call (by decide) ⟨r, F2, d, ts2, rfl, R3, fun v3 hv3 => ?_⟩
  obtain ⟨mm, a3, dx3, dl3, rfl, _, h5, h6⟩ := hv3
  refine ⟨dx3, _, _, R3.sub _ _ h5, rfl, _, .inl (.inl (G3.keep sg _ sgr hsg)), rfl, u9 ss, ?_⟩
  rw [sM, show b9 (next ts2) = kd ts2 from rfl]
  obtain ⟨n', rfl⟩ : ∃ m, n' = m + 1 := ⟨n' - 1, by omega⟩
  rw [hL] at hR3
  unfold Vablda.tailOf at hR3
  have hw2 := hw ts2 R3.gd
  cases e : which ts2 with
  | none =>
    rw [e] at hR3 hw2
    rw [decide_eq_false hw2]
    refine c9 ⟨F2, ts2, xs, x, y, by trivial, G3, R3, hl3, L3, hne, ?_⟩
    have hR3 : Res K A r F' H d ts.length (got [Vablda.alone kk (xs ++ [])] ts2) Q E := hR3
    rw [List.append_nil] at hR3
    exact hR3
  | some nk =>
    rw [e] at hR3 hw2
    obtain ⟨hin, hval⟩ := hw2
    rw [decide_eq_true hin]
    dsimp only at hR3
    rw [br] at hR3
    have hk0 : (next ts2).kind ≠ 0 := fun z => hse (by rw [<- (kQ R3.gd).mp z]; exact hin)
    have hdr := R3.dr hk0
    refine bU ⟨_, fun _ _ h => h, R3.call (by decide) ⟨r, F2, d, ts2, rfl, R3, hk0, fun v4 H4 G4 R4 hv4 => ?_⟩⟩
    have L4 := L3.grow G4 R3 R4
    obtain ⟨m4, a4, dx4, dl4, rfl, _, h7, h8⟩ := hv4
    refine ⟨f, fd, ps, _, k0, rfl, Ff, hr.mono hk, fk, fb, r, F2, d, ts2.drop 1, n', rfl, R4, hd, by omega, aF hR3 (G3.trans G4 R4.fr) fun t5 ts5 F5 H5 v5 G5 g5 R5 hlt5 ht5 hR5 => ?_⟩
    have L5 := L4.grow g5 R4 R5
    obtain ⟨vs5, hvs5, htr5⟩ := L5.at_
    have h7' := R5.sub _ _ (g5.up _ _ h7)
    refine ⟨⟨_, hvs5⟩, dx4, _, _, h7', rfl, _, hval, dx4, _, _, h7', rfl, (by rw [sizeLine_eq]; decide), fun q hq => ?_⟩
    obtain ⟨G6, R6, L6⟩ := aL (vs := [v5]) (xs := [t5]) G5 R5 hq (.cons ht5 .nil)
    have Lp : Ll A H F5 (upd H5 q (.lst [v5])) p xs := ⟨⟨vs5, by rw [al (az hvs5 hq)]; exact hvs5, htr5⟩, L5.nf, L5.nw⟩
    refine aU (kk := nk) (pp := (next ts2).place) G6 R6 L6 fun F7 H7 v7 G7 R7 ht7 _ keepL => ?_
    have L7 := keepL p xs (az hvs5 hq) Lp
    obtain ⟨vs7, hvs7, htr7⟩ := L7.at_
    refine ⟨vs7, hvs7, ?_, ?_⟩
    ·rw [htr7.len, sizeLine_eq]; have := R3.le; have := R.le; omega
    ·obtain ⟨G8, R8, L8⟩ := cf G7 R7 L7 (htr7.snoc ht7)
     refine ⟨_, by omega, F7, ts5, xs ++ [.node nk [t5] (next ts2).place], n', _, _, rfl, rfl, G8, R8, by omega, by simp; omega, L8, by simp, by omega, by have := R5.gd.pos; omega, ?_⟩
     rw [eT] at hR5
     simp only [List.append_assoc]
     exact hR5
 ·rintro σ H' ⟨F2, ts2, xs, x, y, rfl, G3, R3, hl3, L3, hne, hR3⟩
  walk_at "rd"
  exact iV G3 R3 L3 hne fun F4 H4 v4 G4 R4 ht4 => hR3.out G4 R4 hl3 ht4
end
end L2
namespace L2
open PySem PySem.Spec PyProof.Rows
open Vablda (Got next got andThen one parse)
def ze (n d : Nat) (ts : List Tk) : Got := andThen (parse n .ands d ts) fun l r => got [Vablda.alone 31 l] r
def gW (w : Vablda.Want) (n d : Nat) (ts : List Tk) : Got := parse n w d ts
theorem TkAt.place {A : Ad} {F H : Hp} {v : V} {t : Tk} (h : TkAt A F v t) (s : Same F H) : ∃ a dx fs, v = .ref a /\ H a = some (.ins A.tok dx fs) /\ fs.lookup ("place" : Str) = some (.int (t.place : Nat)) /\ fs.lookup ("kind" : Str) = some (.str (b9 t)) /\ ∃ dl, fs.lookup ("data" : Str) = some (.ref dl) /\ F dl = some (.lst (bts (c8 t))) := by
 obtain ⟨m, a, dx, dl, rfl, _, h1, h2⟩ := h
 exact ⟨a, dx, _, rfl, s _ _ h1, rfl, rfl, dl, rfl, h2⟩
section
variable {P : Program} {w : World} {K : Frag} {mg : Str -> Option Value} {base : Heap} {A : Ad} {k k0 j : Nat}
abbrev gq : Stmt := top 104
theorem qr : ai ["reader"] ["reader"] (ad gq) := by walk_at "sc"
theorem pP (T : Txt P w K mg A) (F : Fd K mg "read_expr" gq) (eB : Fn P w K mg base "read_joined" k ["reader", "kind", "word", "read_part"] (jA P w K mg base A k0)) (sk : Fn P w K mg base "read_and" k0 ["reader"] (spG K A j ze 8)) : Fn P w K mg base "read_expr" (k + 1) ["reader"] (spG K A j (gW .expr) 10) := by
 refine Fn.of1 F qr (fun _ _ _ _ _ _ _ => rfl) fun g cdv Ar outer s H a Q E hr h => ⟨_, (ac (aj (q_c eB hr ae (a8 (q_v 0) (a8 (q_g T.g_OR) (a8 aw (a8 (oQ sk) aa))))))), ?_⟩
 obtain ⟨r, F', d, ts, n, rfl, R, hd, hn, hR⟩ := h
 obtain ⟨n, rfl⟩ : ∃ m, n = m + 1 := ⟨n - 1, by omega⟩
 walk_at "rd"
 intro v hv
 exact ⟨r, F', d, ts, n, 30, "or", j, ze, fun m u => parse m .ors d u, 8, Vablda.isWord "or", rfl, rfl, rfl, by decide, hv, R, hd, by omega, fun u g => bh g, fun _ _ => rfl, hR⟩
abbrev jp : Stmt := top 105
theorem rp : ai ["reader"] ["reader"] (ad jp) := by walk_at "sc"
theorem rh (T : Txt P w K mg A) (F : Fd K mg "read_and" jp) (eB : Fn P w K mg base "read_joined" k ["reader", "kind", "word", "read_part"] (jA P w K mg base A k0)) (sG : Fn P w K mg base "read_not" k0 ["reader"] (spG K A j (gW .not_) 7)) : Fn P w K mg base "read_and" (k + 1) ["reader"] (spG K A j ze 8) := by
 refine Fn.of1 F rp (fun _ _ _ _ _ _ _ => rfl) fun g cdv Ar outer s H a Q E hr h => ⟨_, (ac (aj (q_c eB hr ae (a8 (q_v 0) (a8 (q_g T.g_AND) (a8 aw (a8 (oQ sG) aa))))))), ?_⟩
 obtain ⟨r, F', d, ts, n, rfl, R, hd, hn, hR⟩ := h
 walk_at "rd"
 intro v hv
 exact ⟨r, F', d, ts, n, 31, "and", j, gW .not_, fun m u => parse m .ands d u, 7, Vablda.isWord "and", rfl, rfl, rfl, by decide, hv, R, hd, by omega, fun u g => bh g, fun _ _ => rfl, hR⟩
abbrev ji : Stmt := top 108
theorem kZ : ai ["reader", "place"] ["reader"] (ad ji) := by walk_at "sc"
theorem r9 (T : Txt P w K mg A) (F : Fd K mg "read_not" ji) (ag : Md P w K mg base A.rdr "sees" k ["self", "kind"] (bQ A)) (ak : Md P w K mg base A.rdr "step" k ["self"] (d4 A)) (l9 : Fn P w K mg base "read_comp" k ["reader"] (spG K A j (gW .comp) 6)) (ay : Fn P w K mg base "node" k ["kind", "place", "parts"] (aX A))  : Fn P w K mg base "read_not" (k + 1) ["reader"] (spG K A j (gW .not_) 7) := by
 refine Fn.of1 F kZ (fun _ _ _ _ _ _ _ => rfl) fun g cdv Ar outer s H a Q E hr h => ⟨_, (a9 (aE (fL (c6 (q_m T.cl_rdr ag hr ae (q_v 0) (a8 aw aa)))) (ac (aj (q_c l9 hr ae (a8 (q_v 0) aa)))) am) (a9 (aq (i := 1) (q_f T.cl_tok T.na_tok_place (gj T.cl_rdr ak hr ae (q_v 0))) kZ.nd) (ac (aj (q_c ay hr ae (a8 (q_g T.g_NOT) (a8 (q_v 1) (a8 (aJ (a8 (q_c l9 hr ae (a8 (q_v 0) aa)) aa)) aa)))))))), ?_⟩
 obtain ⟨r, F', d, ts, n, rfl, R, hd, hn, hR⟩ := h
 obtain ⟨n, rfl⟩ : ∃ m, n = m + 1 := ⟨n - 1, by omega⟩
 have hR : Res K A r F' H d ts.length (if Vablda.isWord "not" ts = true then one (parse n .comp d (ts.drop 1)) fun e r => got [.node 32 [e] (next ts).place] r else parse n .comp d ts) Q E := hR
 rw [bh R.gd] at hR
 walk_at "rd"
 refine R.call (by decide) ⟨r, F', d, ts, _, rfl, rfl, R, ?_⟩
 by_cases e : kd ts = "not"
 ·rw [decide_eq_true e] at hR ⊢
  rw [if_pos rfl] at hR
  have hk0 := R.ne0 e (by decide)
  have hdr := R.dr hk0
  refine lc (R.call (by decide) ⟨r, F', d, ts, rfl, R, hk0, fun v1 H1 G1 R1 hv1 => ?_⟩)
  obtain ⟨a1, dx1, fs1, rfl, h1, h2, _⟩ := hv1.place R1.sub
  refine ⟨dx1, _, _, h1, h2, r, F', d, ts.drop 1, n, rfl, R1, hd, by omega, aF hR G1 fun t2 ts2 F2 H2 v2 G2 _ R2 hlt2 ht2 hR2 => ⟨(by rw [sizeLine_eq]; decide), fun p hp => ?_⟩⟩
  obtain ⟨G3, R3, L3⟩ := aL (vs := [v2]) (xs := [t2]) G2 R2 hp (.cons ht2 .nil)
  exact aU (kk := 32) (pp := (next ts).place) G3 R3 L3 fun F4 H4 v4 G4 R4 ht4 _ _ => hR2.out G4 R4 (by omega) ht4
 ·rw [decide_eq_false e] at hR ⊢
  rw [if_neg (by decide)] at hR
  exact iA ⟨r, F', d, ts, n, rfl, R, hd, by omega, hR⟩
theorem w8 (ts : List Tk) (g : Good ts) : match Vablda.compSign ts with | some m => aZ bX (Sum.inr (kd ts)) = some (.int (m : Nat)) /\ kd ts ≠ "end" | none => aZ bX (Sum.inr (kd ts)) = none := by
 unfold Vablda.compSign
 rw [aM g, aM g, aM g, aM g, bh g]
 by_cases h1 : kd ts = "=="
 ·rw [h1]; exact ⟨rfl, by decide⟩
 by_cases h2 : kd ts = "!="
 ·rw [h2]; exact ⟨rfl, by decide⟩
 by_cases h3 : kd ts = "<"
 ·rw [h3]; exact ⟨rfl, by decide⟩
 by_cases h4 : kd ts = "<="
 ·rw [h4]; exact ⟨rfl, by decide⟩
 by_cases h5 : kd ts = "in"
 ·rw [h5]; exact ⟨rfl, by decide⟩
 rw [decide_eq_false h1, decide_eq_false h2, decide_eq_false h3, decide_eq_false h4, decide_eq_false h5]
 show aZ bX (Sum.inr (kd ts)) = none
 have m1 : ¬ (Str.ofString "==" = kd ts) := fun e => h1 e.symm
 have m2 : ¬ (Str.ofString "!=" = kd ts) := fun e => h2 e.symm
 have m3 : ¬ (Str.ofString "<" = kd ts) := fun e => h3 e.symm
 have m4 : ¬ (Str.ofString "<=" = kd ts) := fun e => h4 e.symm
 have m5 : ¬ (Str.ofString "in" = kd ts) := fun e => h5 e.symm
 unfold aZ bX
 simp [List.find?, m1, m2, m3, m4, m5]
abbrev gx : Stmt := top 109
theorem dj : ai ["reader", "left", "kind", "right"] ["reader"] (ad gx) := by walk_at "sc"
theorem pZ (T : Txt P w K mg A) (F : Fd K mg "read_comp" gx) (mB : Fn P w K mg base "read_sum" k ["reader"] (spG K A j (gW .sum) 5)) (aK : Md P w K mg base A.rdr "seen" k ["self"] (kU A)) (ak : Md P w K mg base A.rdr "step" k ["self"] (d4 A)) (ay : Fn P w K mg base "node" k ["kind", "place", "parts"] (aX A))  : Fn P w K mg base "read_comp" (k + 1) ["reader"] (spG K A j (gW .comp) 6) := by
 refine Fn.of1 F dj (fun _ _ _ _ _ _ _ => rfl) fun g cdv Ar outer s H a Q E hr h => ⟨_, (a9 (aq (i := 1) (q_c mB hr ae (a8 (q_v 0) aa)) dj.nd) (a9 (aE (tD (vq T.t_COMPARISONS (q_f T.cl_tok T.na_tok_kind (gj T.cl_rdr aK hr ae (q_v 0))) (q_g T.g_COMPARISONS))) (ac (aj (q_v 1))) am) (a9 (aq (i := 2) (p9 T.t_COMPARISONS (q_g T.g_COMPARISONS) (q_f T.cl_tok T.na_tok_kind (gj T.cl_rdr ak hr ae (q_v 0)))) dj.nd) (a9 (aq (i := 3) (q_c mB hr ae (a8 (q_v 0) aa)) dj.nd) (ac (aj (q_c ay hr ae (a8 (q_v 2) (a8 (q_f T.cl_tree T.na_tree_place (q_v 1)) (a8 (aJ (a8 (q_v 1) (a8 (q_v 3) aa))) aa)))))))))), ?_⟩
 obtain ⟨r, F', d, ts, n, rfl, R, hd, hn, hR⟩ := h
 obtain ⟨n, rfl⟩ : ∃ m, n = m + 1 := ⟨n - 1, by omega⟩
 have hR : Res K A r F' H d ts.length (Vablda.compOf (parse n) d ts) Q E := hR
 unfold Vablda.compOf at hR
 walk_at "rd"
 refine ⟨r, F', d, ts, n, rfl, R, hd, by omega, aF hR (Grow.refl _ _ _) fun t1 ts1 F1 H1 v1 G1 _ R1 hlt1 ht1 hR1 => ?_⟩
 refine R1.call (by decide) ⟨r, F1, d, ts1, rfl, R1, fun v2 hv2 => ?_⟩
 obtain ⟨a2, dx2, fs2, rfl, h1, _, h3, _⟩ := hv2.place R1.sub
 refine ⟨dx2, _, _, h1, h3, ?_⟩
 dsimp only
 have hc := w8 ts1 R1.gd
 rw [show b9 (next ts1) = kd ts1 from rfl]
 cases e : Vablda.compSign ts1 with
 | none =>
   rw [e] at hc hR1
   rw [hc]
   exact bU (hR1.out G1 R1 hlt1 ht1)
 | some nk =>
   rw [e] at hc hR1
   rw [hc.1]
   dsimp only at hR1
   have hk0 := R1.ne0 rfl hc.2
   have hdr := R1.dr hk0
   refine c9 (R1.call (by decide) ⟨r, F1, d, ts1, rfl, R1, hk0, fun v3 H3 G3 R3 hv3 => ?_⟩)
   obtain ⟨a3, dx3, fs3, rfl, h4, _, h6, _⟩ := hv3.place R3.sub
   refine ⟨dx3, _, _, h4, h6, ?_⟩
   dsimp only
   rw [show b9 (next ts1) = kd ts1 from rfl]
   refine ⟨_, hc.1, r, F1, d, ts1.drop 1, n, rfl, R3, hd, by omega, aF hR1 (G1.trans G3 R3.fr) fun t5 ts5 F5 H5 v5 G5 g5 R5 hlt5 ht5 hR5 => ?_⟩
   have ht1' := ht1.mono g5.up
   obtain ⟨a6, dx6, dl6, pl6, rfl, h7⟩ := ht1'.kp
   refine ⟨dx6, _, _, R5.sub _ _ h7, rfl, (by rw [sizeLine_eq]; decide), fun p hp => ?_⟩
   obtain ⟨G8, R8, L8⟩ := aL (vs := [.ref a6, v5]) (xs := [t1, t5]) G5 R5 hp (.cons ht1' (.cons ht5 .nil))
   exact aU (kk := nk) (pp := Vablda.placeOf t1) G8 R8 L8 fun F9 H9 v9 G9 R9 ht9 _ _ => hR5.out G9 R9 (by omega) ht9
theorem wV (ts : List Tk) (g : Good ts) : match Vablda.sumSign ts with | some m => kd ts ∈ (["+", "-"] : List Str) /\ aZ cU (Sum.inr (kd ts)) = some (.int (m : Nat)) | none => kd ts ∉ (["+", "-"] : List Str) := by
 unfold Vablda.sumSign
 rw [aM g, aM g]
 by_cases h1 : kd ts = "+"
 ·rw [h1]; exact ⟨by decide, rfl⟩
 by_cases h2 : kd ts = "-"
 ·rw [h2]; exact ⟨by decide, rfl⟩
 rw [decide_eq_false h1, decide_eq_false h2]
 show kd ts ∉ _
 simp [h1, h2]
theorem vE (ts : List Tk) (g : Good ts) : match Vablda.prodSign ts with | some m => kd ts ∈ (["*", "/", "percent"] : List Str) /\ aZ cU (Sum.inr (kd ts)) = some (.int (m : Nat)) | none => kd ts ∉ (["*", "/", "percent"] : List Str) := by
 unfold Vablda.prodSign
 rw [aM g, aM g, zg g]
 by_cases h1 : kd ts = "*"
 ·rw [h1]; exact ⟨by decide, rfl⟩
 by_cases h2 : kd ts = "/"
 ·rw [h2]; exact ⟨by decide, rfl⟩
 by_cases h3 : kd ts = "percent"
 ·rw [h3]; exact ⟨by decide, rfl⟩
 rw [decide_eq_false h1, decide_eq_false h2, decide_eq_false h3]
 show kd ts ∉ _
 simp [h1, h2, h3]
theorem pB {r : Addr} {F H : Hp} {d : Nat} {ts : List Tk} {p : Addr} {vs : List V} (R : Rs A r F H d ts) (hp : H p = none) : Grow r F H F (upd H p (.tup vs)) /\ Rs A r F (upd H p (.tup vs)) d ts /\ F p = none := by
 obtain ⟨dx, fs, hr⟩ := R.rdr
 have hpr : p ≠ r := fun e => by rw [e, hr] at hp; cases hp
 have s1 : Same H (upd H p (.tup vs)) := Same.upd hp
 exact ⟨⟨Same.refl _, fun _ _ h => .inl ⟨_, h⟩, fun a o ne h => s1 a o h⟩, R.move (Same.refl _) (R.sub.trans s1) (al hpr.symm) R.fr, R.sub.free hp⟩
abbrev iO : Stmt := top 110
theorem qQ : ai ["reader"] ["reader"] (ad iO) := by walk_at "sc"
theorem qN (T : Txt P w K mg A) (F : Fd K mg "read_sum" iO) (fE : Fn P w K mg base "read_signs" k ["reader", "kind", "signs", "read_part"] (lI P w K mg base A k0)) (rG : Fn P w K mg base "read_prod" k0 ["reader"] (spG K A j (gW .prod) 4)) : Fn P w K mg base "read_sum" (k + 1) ["reader"] (spG K A j (gW .sum) 5) := by
 refine Fn.of1 F qQ (fun _ _ _ _ _ _ _ => rfl) fun g cdv Ar outer s H a Q E hr h => ⟨_, (ac (aj (q_c fE hr ae (a8 (q_v 0) (a8 (q_g T.g_SUM) (a8 (fM (a8 aw (a8 aw aa))) (a8 (oQ rG) aa))))))), ?_⟩
 obtain ⟨r, F', d, ts, n, rfl, R, hd, hn, hR⟩ := h
 obtain ⟨n, rfl⟩ : ∃ m, n = m + 1 := ⟨n - 1, by omega⟩
 walk_at "rd"
 refine ⟨(by rw [sizeLine_eq]; decide), fun p hp v hv => ?_⟩
 obtain ⟨G1, R1, f1⟩ := pB (vs := [V.str "+", V.str "-"]) R hp
 exact ⟨r, F', d, ts, n, 38, p, ["+", "-"], Vablda.sumSign, j, gW .prod, fun m u => parse m .sumTail d u, 4, rfl, rfl, rfl, f1, af, by decide, wV, hv, R1, hd, by omega, fun _ _ => rfl, Res.up hR G1 (Nat.le_refl _)⟩
abbrev gK : Stmt := top 111
theorem qc : ai ["reader"] ["reader"] (ad gK) := by walk_at "sc"
theorem qg (T : Txt P w K mg A) (F : Fd K mg "read_prod" gK) (fE : Fn P w K mg base "read_signs" k ["reader", "kind", "signs", "read_part"] (lI P w K mg base A k0)) (nX : Fn P w K mg base "read_signed" k0 ["reader"] (spG K A j (gW .signed) 3)) : Fn P w K mg base "read_prod" (k + 1) ["reader"] (spG K A j (gW .prod) 4) := by
 refine Fn.of1 F qc (fun _ _ _ _ _ _ _ => rfl) fun g cdv Ar outer s H a Q E hr h => ⟨_, (ac (aj (q_c fE hr ae (a8 (q_v 0) (a8 (q_g T.g_PROD) (a8 (fM (a8 aw (a8 aw (a8 aw aa)))) (a8 (oQ nX) aa))))))), ?_⟩
 obtain ⟨r, F', d, ts, n, rfl, R, hd, hn, hR⟩ := h
 obtain ⟨n, rfl⟩ : ∃ m, n = m + 1 := ⟨n - 1, by omega⟩
 walk_at "rd"
 refine ⟨(by rw [sizeLine_eq]; decide), fun p hp v hv => ?_⟩
 obtain ⟨G1, R1, f1⟩ := pB (vs := [V.str "*", V.str "/", V.str "percent"]) R hp
 exact ⟨r, F', d, ts, n, 40, p, ["*", "/", "percent"], Vablda.prodSign, j, gW .signed, fun m u => parse m .prodTail d u, 3, rfl, rfl, rfl, f1, af, by decide, vE, hv, R1, hd, by omega, fun _ _ => rfl, Res.up hR G1 (Nat.le_refl _)⟩
abbrev eE : Stmt := top 113
theorem ia : ai ["reader", "place"] ["reader"] (ad eE) := by walk_at "sc"
theorem mj (T : Txt P w K mg A) (F : Fd K mg "read_signed" eE) (ag : Md P w K mg base A.rdr "sees" k ["self", "kind"] (bQ A)) (ak : Md P w K mg base A.rdr "step" k ["self"] (d4 A)) (ld : Fn P w K mg base "read_post" k ["reader"] (spG K A j (gW .post) 2)) (ay : Fn P w K mg base "node" k ["kind", "place", "parts"] (aX A))  : Fn P w K mg base "read_signed" (k + 1) ["reader"] (spG K A j (gW .signed) 3) := by
 refine Fn.of1 F ia (fun _ _ _ _ _ _ _ => rfl) fun g cdv Ar outer s H a Q E hr h => ⟨_, (a9 (aE (fL (c6 (q_m T.cl_rdr ag hr ae (q_v 0) (a8 aw aa)))) (ac (aj (q_c ld hr ae (a8 (q_v 0) aa)))) am) (a9 (aq (i := 1) (q_f T.cl_tok T.na_tok_place (gj T.cl_rdr ak hr ae (q_v 0))) ia.nd) (ac (aj (q_c ay hr ae (a8 (q_g T.g_MINUS) (a8 (q_v 1) (a8 (aJ (a8 (q_c ld hr ae (a8 (q_v 0) aa)) aa)) aa)))))))), ?_⟩
 obtain ⟨r, F', d, ts, n, rfl, R, hd, hn, hR⟩ := h
 obtain ⟨n, rfl⟩ : ∃ m, n = m + 1 := ⟨n - 1, by omega⟩
 have hR : Res K A r F' H d ts.length (if Vablda.isSign "-" ts = true then one (parse n .post d (ts.drop 1)) fun e r => got [.node 43 [e] (next ts).place] r else parse n .post d ts) Q E := hR
 rw [aM R.gd] at hR
 walk_at "rd"
 refine R.call (by decide) ⟨r, F', d, ts, _, rfl, rfl, R, ?_⟩
 by_cases e : kd ts = "-"
 ·rw [decide_eq_true e] at hR ⊢
  rw [if_pos rfl] at hR
  have hk0 := R.ne0 e (by decide)
  have hdr := R.dr hk0
  refine lc (R.call (by decide) ⟨r, F', d, ts, rfl, R, hk0, fun v1 H1 G1 R1 hv1 => ?_⟩)
  obtain ⟨a1, dx1, fs1, rfl, h1, h2, _⟩ := hv1.place R1.sub
  refine ⟨dx1, _, _, h1, h2, r, F', d, ts.drop 1, n, rfl, R1, hd, by omega, aF hR G1 fun t2 ts2 F2 H2 v2 G2 _ R2 hlt2 ht2 hR2 => ⟨(by rw [sizeLine_eq]; decide), fun p hp => ?_⟩⟩
  obtain ⟨G3, R3, L3⟩ := aL (vs := [v2]) (xs := [t2]) G2 R2 hp (.cons ht2 .nil)
  exact aU (kk := 43) (pp := (next ts).place) G3 R3 L3 fun F4 H4 v4 G4 R4 ht4 _ _ => hR2.out G4 R4 (by omega) ht4
 ·rw [decide_eq_false e] at hR ⊢
  rw [if_neg (by decide)] at hR
  exact iA ⟨r, F', d, ts, n, rfl, R, hd, by omega, hR⟩
end
end L2
namespace L2
open PySem PySem.Spec PyProof.Rows
open Vablda (Got next got andThen one parse)
def kL (K : Frag) (A : Ad) : Sp := sp2 fun a b H Q E => ∃ r F d ts kk, a = .ref r /\ b = .int (kk : Nat) /\ Rs A r F H d ts /\ Res K A r F H d ts.length (Vablda.name kk ts fun x q => got [x] q) Q E
section
variable {K : Frag} {A : Ad} {r : Addr} {F0 H0 F H : Hp} {d d0 n0 : Nat} {ts : List Tk} {Q Q' : VK} {E : XK}
theorem og {ts : List Tk} (h : Vablda.isName ts = true) : c8 (next ts) = (next ts).text := by
 have h : ((next ts).kind == 1) = true := h
 unfold c8
 rw [beq_iff_eq.mp h]
 rfl
theorem eg {s : String} {f : List Tk -> Got} (hR : Res K A r F0 H0 d0 n0 (Vablda.sign s ts f) Q E) (G : Grow r F0 H0 F H) (R : Rs A r F H d ts) (hs : s ∈ fh)
  (k : ∀ v H', Grow r F0 H0 F H' -> Grow r F H F H' -> Rs A r F H' d (ts.drop 1) -> (ts.drop 1).length + 1 = ts.length -> TkAt A F v (next ts) -> Res K A r F0 H0 d0 n0 (f (ts.drop 1)) Q E -> Q' v H') : bM K A [.ref r, .str (Str.ofString s)] H Q' E := by
 have hne : Str.ofString s ≠ "end" := (show ∀ s ∈ fh, Str.ofString s ≠ "end" by decide) s hs
 refine ⟨r, F, d, ts, _, rfl, rfl, hne, R, ?_⟩
 unfold Vablda.sign at hR
 rw [aM R.gd hs] at hR
 by_cases e : kd ts = Str.ofString s
 ·rw [decide_eq_true e, if_pos rfl] at hR
  rw [if_pos e]
  exact fun v H' g R' hv => k v H' (G.trans g R'.fr) g R' (R.dr (R.ne0 e hne)) hv hR
 ·rw [decide_eq_false e, if_neg (by decide)] at hR
  rw [if_neg e]; exact hR
theorem ej {s : String} {f : List Tk -> Got} (hR : Res K A r F0 H0 d0 n0 (Vablda.word s ts f) Q E) (G : Grow r F0 H0 F H) (R : Rs A r F H d ts) (hs : s ∈ kS)
  (k : ∀ v H', Grow r F0 H0 F H' -> Grow r F H F H' -> Rs A r F H' d (ts.drop 1) -> (ts.drop 1).length + 1 = ts.length -> TkAt A F v (next ts) -> Res K A r F0 H0 d0 n0 (f (ts.drop 1)) Q E -> Q' v H') : bM K A [.ref r, .str (Str.ofString s)] H Q' E := by
 have hne : Str.ofString s ≠ "end" := (show ∀ s ∈ kS, Str.ofString s ≠ "end" by decide) s hs
 refine ⟨r, F, d, ts, _, rfl, rfl, hne, R, ?_⟩
 unfold Vablda.word at hR
 rw [bh R.gd hs] at hR
 by_cases e : kd ts = Str.ofString s
 ·rw [decide_eq_true e, if_pos rfl] at hR
  rw [if_pos e]
  exact fun v H' g R' hv => k v H' (G.trans g R'.fr) g R' (R.dr (R.ne0 e hne)) hv hR
 ·rw [decide_eq_false e, if_neg (by decide)] at hR
  rw [if_neg e]; exact hR
theorem cX {s : String} {f : List Tk -> Got} (hR : Res K A r F0 H0 d0 n0 (Vablda.sign s ts f) Q E) (G : Grow r F0 H0 F H) (R : Rs A r F H (d + 1) ts) (hs : s ∈ fh)
  (k : ∀ H', Grow r F0 H0 F H' -> Grow r F H F H' -> Rs A r F H' d (ts.drop 1) -> (ts.drop 1).length + 1 = ts.length -> Res K A r F0 H0 d0 n0 (f (ts.drop 1)) Q E -> Q' .non H') : ci K A [.ref r, .str (Str.ofString s)] H Q' E := by
 have hne : Str.ofString s ≠ "end" := (show ∀ s ∈ fh, Str.ofString s ≠ "end" by decide) s hs
 refine ⟨r, F, d, ts, _, rfl, rfl, hne, R, ?_⟩
 unfold Vablda.sign at hR
 rw [aM R.gd hs] at hR
 by_cases e : kd ts = Str.ofString s
 ·rw [decide_eq_true e, if_pos rfl] at hR
  rw [if_pos e]
  exact fun H' g R' => k H' (G.trans g R'.fr) g R' (R.dr (R.ne0 e hne)) hR
 ·rw [decide_eq_false e, if_neg (by decide)] at hR
  rw [if_neg e]; exact hR
theorem dF {s : String} {f : List Tk -> Got} (hR : Res K A r F0 H0 d0 n0 (Vablda.opened s d ts f) Q E) (G : Grow r F0 H0 F H) (R : Rs A r F H d ts) (hs : s ∈ fh) (hd : d <= 12)
  (k : ∀ v H', Grow r F0 H0 F H' -> Grow r F H F H' -> Rs A r F H' (d + 1) (ts.drop 1) -> (ts.drop 1).length + 1 = ts.length -> d + 1 <= 12 -> TkAt A F v (next ts) -> Res K A r F0 H0 d0 n0 (f (ts.drop 1)) Q E -> Q' v H') : dh K A [.ref r, .str (Str.ofString s)] H Q' E := by
 have hne : Str.ofString s ≠ "end" := (show ∀ s ∈ fh, Str.ofString s ≠ "end" by decide) s hs
 refine ⟨r, F, d, ts, _, rfl, rfl, hne, R, ?_⟩
 unfold Vablda.opened at hR
 rw [aM R.gd hs] at hR
 by_cases e : kd ts = Str.ofString s
 ·rw [decide_eq_true e, if_neg (by decide)] at hR
  rw [if_pos e]
  by_cases h12 : d = 12
  ·rw [if_pos (show Vablda.BRACKETS <= d by rw [h12]; decide)] at hR
   rw [if_pos h12]; exact hR
  ·rw [if_neg (show ¬ Vablda.BRACKETS <= d by show ¬ 12 <= d; omega)] at hR
   rw [if_neg h12]
   exact fun v H' g R' hv => k v H' (G.trans g R'.fr) g R' (R.dr (R.ne0 e hne)) (by omega) hv hR
 ·rw [decide_eq_false e, if_pos rfl] at hR
  rw [if_neg e]; exact hR
theorem dY {kk : Nat} {f : Tr -> List Tk -> Got} (hR : Res K A r F0 H0 d0 n0 (Vablda.name kk ts f) Q E) (G : Grow r F0 H0 F H) (R : Rs A r F H d ts)
  (k : ∀ F' H' v, Grow r F0 H0 F' H' -> Grow r F H F' H' -> Rs A r F' H' d (ts.drop 1) -> (ts.drop 1).length + 1 = ts.length -> TreeAt A.tree F' v (Vablda.leafOf kk ts) -> Res K A r F0 H0 d0 n0 (f (Vablda.leafOf kk ts) (ts.drop 1)) Q E -> Q' v H') :
  Res K A r F H d ts.length (Vablda.name kk ts fun x q => got [x] q) Q' E := by
 unfold Vablda.name at hR ⊢
 by_cases e : Vablda.isName ts = true
 ·rw [if_pos e] at hR ⊢
  intro F' H' v t ht g R' hl hv
  have h1 : (next ts).kind ≠ 0 := fun z => by
   have e : ((next ts).kind == 1) = true := e
   rw [z] at e; cases e
  cases ht
  exact k F' H' v (G.trans g R'.fr) g R' (R.dr h1) hv hR
 ·rw [if_neg e] at hR ⊢; exact hR
theorem jG {s : String} {f : List Tk -> Got} (h : Vablda.isSign s ts = true) : Vablda.sign s ts f = f (ts.drop 1) := by unfold Vablda.sign; rw [if_pos h]
theorem sQ {kk : Nat} {f : Tr -> List Tk -> Got} (h : Vablda.isName ts = true) : Vablda.name kk ts f = f (Vablda.leafOf kk ts) (ts.drop 1) := by unfold Vablda.name; rw [if_pos h]
theorem yS {g g' : Got} (h : Res K A r F0 H0 d n0 g Q E) (e : g = g') : Res K A r F0 H0 d n0 g' Q E := e ▸ h
end
def eA (n d : Nat) (ts : List Tk) : Got := Vablda.name 3 ts fun x q => got [x] q
def o8 (n d : Nat) (ts : List Tk) : Got := Vablda.opened "(" d ts fun r => andThen (if Vablda.isSign ")" r = true then got [] r else parse n .args (d + 1) r) fun l q => Vablda.sign ")" q fun u => got [.node 65 l (next ts).place] u
def ki (n d : Nat) (ts : List Tk) : Got := Vablda.opened "[" d ts fun r => one (parse n .expr (d + 1) r) fun e q => Vablda.sign "]" q fun u => got [.node 66 [e] (next ts).place] u
def zw (ts : List Tk) : Got := Vablda.sign "." ts fun u => Vablda.name 7 u fun x q => got [.node 67 [x] (next ts).place] q
def io (n d : Nat) (ts : List Tk) : Got := if Vablda.isSign "(" ts = true then o8 n d ts else if Vablda.isSign "[" ts = true then ki n d ts else zw ts
def xI (n d : Nat) (ts : List Tk) : Got := Vablda.argOf (parse n) d ts
def pO (n d : Nat) (ts : List Tk) : Got := Vablda.fieldOf (parse n) d ts
section
variable {P : Program} {w : World} {K : Frag} {mg : Str -> Option Value} {base : Heap} {A : Ad} {k k0 j : Nat}
abbrev gQ : Stmt := top 116
theorem jQ : ai ["reader", "kind", "token"] ["reader", "kind"] (ad gQ) := by walk_at "sc"
theorem pS (T : Txt P w K mg A) (F : Fd K mg "read_name" gQ) (ah : Md P w K mg base A.rdr "take" k ["self", "kind"] (bM K A)) (fS : Fn P w K mg base "leaf" k ["kind", "place", "data"] (mW A))  : Fn P w K mg base "read_name" (k + 1) ["reader", "kind"] (kL K A) := by
 refine Fn.of2 F jQ (fun _ _ _ _ _ _ _ _ => rfl) fun g cdv Ar outer s H a b Q E hr h => ⟨_, (a9 (aq (i := 2) (q_m T.cl_rdr ah hr ae (q_v 0) (a8 aw aa)) jQ.nd) (ac (aj (q_c fS hr ae (a8 (q_v 1) (a8 (q_f T.cl_tok T.na_tok_place (q_v 2)) (a8 (q_f T.cl_tok T.na_tok_data (q_v 2)) aa))))))), ?_⟩
 obtain ⟨r, F', d, ts, kk, rfl, rfl, R, hR⟩ := h
 walk_at "rd"
 refine R.call (by decide) ⟨r, F', d, ts, _, rfl, rfl, by decide, R, ?_⟩
 unfold Vablda.name at hR
 rw [iq R.gd] at hR
 by_cases e : kd ts = "name"
 ·have hi : Vablda.isName ts = true := by rw [iq R.gd, decide_eq_true e]
  rw [decide_eq_true e, if_pos rfl] at hR
  rw [if_pos e]
  intro v1 H1 G1 R1 hv1
  have hdr := R.dr (R.ne0 e (by decide))
  obtain ⟨a1, dx1, fs1, rfl, h1, h2, _, dl, h3, h4⟩ := hv1.place R1.sub
  refine ⟨dx1, _, _, h1, h2, dx1, _, _, h1, h3, qe (kk := kk) (pp := (next ts).place) G1 R1 h4 fun F2 H2 v2 G2 _ R2 ht2 => hR.out G2 R2 (by omega) ?_⟩
  rw [og hi] at ht2
  exact ht2
 ·rw [decide_eq_false e, if_neg (by decide)] at hR
  rw [if_neg e]; exact hR
abbrev cu : Stmt := top 132
theorem jr : ai ["reader"] ["reader"] (ad cu) := by walk_at "sc"
theorem iR (T : Txt P w K mg A) (F : Fd K mg "read_given_name" cu) (aP : Fn P w K mg base "read_name" k ["reader", "kind"] (kL K A))  : Fn P w K mg base "read_given_name" (k + 1) ["reader"] (spG K A j eA 0) := by
 refine Fn.of1 F jr (fun _ _ _ _ _ _ _ => rfl) fun g cdv Ar outer s H a Q E hr h => ⟨_, (ac (aj (q_c aP hr ae (a8 (q_v 0) (a8 (q_g T.g_NAME) aa))))), ?_⟩
 obtain ⟨r, F', d, ts, n, rfl, R, hd, hn, hR⟩ := h
 walk_at "rd"
 exact ⟨r, F', d, ts, 3, rfl, rfl, R, hR⟩
theorem nZ {ts : List Tk} (g : Good ts) : (kd ts = "name" /\ kd (ts.drop 1) = "=") -> Vablda.isName ts = true /\ Vablda.isSign "=" (ts.drop 1) = true := fun ⟨h1, h2⟩ => by
 have hk : (next ts).kind ≠ 0 := fun z => by rw [(kQ g).mp z] at h1; exact absurd h1 (by decide)
 exact ⟨by rw [iq g, decide_eq_true h1], by rw [aM (g.rest hk), decide_eq_true h2]⟩
theorem oq {ts : List Tk} (g : Good ts) : ¬ (kd ts = "name" /\ kd (ts.drop 1) = "=") -> ¬ (Vablda.isName ts = true /\ Vablda.isSign "=" (ts.drop 1) = true) := fun h ⟨h1, h2⟩ => by
 rw [iq g, decide_eq_true_eq] at h1
 have hk : (next ts).kind ≠ 0 := fun z => by rw [(kQ g).mp z] at h1; exact absurd h1 (by decide)
 rw [aM (g.rest hk), decide_eq_true_eq] at h2
 exact h ⟨h1, h2⟩
abbrev iM : Stmt := top 120
theorem l7 : ai ["reader", "label"] ["reader"] (ad iM) := by walk_at "sc"
theorem qw (T : Txt P w K mg A) (F : Fd K mg "read_arg" iM) (aW : Md P w K mg base A.rdr "sees_giving" k ["self"] (mh A)) (aD : Fn P w K mg base "read_expr" k ["reader"] (spG K A j (gW .expr) 10)) (aP : Fn P w K mg base "read_name" k ["reader", "kind"] (kL K A)) (ah : Md P w K mg base A.rdr "take" k ["self", "kind"] (bM K A)) (ay : Fn P w K mg base "node" k ["kind", "place", "parts"] (aX A))  : Fn P w K mg base "read_arg" (k + 1) ["reader"] (spG K A j xI 10) := by
 refine Fn.of1 F l7 (fun _ _ _ _ _ _ _ => rfl) fun g cdv Ar outer s H a Q E hr h => ⟨_, (a9 (aE (fL (c6 (gj T.cl_rdr aW hr ae (q_v 0)))) (ac (aj (q_c aD hr ae (a8 (q_v 0) aa)))) am) (a9 (aq (i := 1) (q_c aP hr ae (a8 (q_v 0) (a8 (q_g T.g_LABEL) aa))) l7.nd) (a9 (aA (q_m T.cl_rdr ah hr ae (q_v 0) (a8 aw aa))) (ac (aj (q_c ay hr ae (a8 (q_g T.g_NAMED_ARG) (a8 (q_f T.cl_tree T.na_tree_place (q_v 1)) (a8 (aJ (a8 (q_v 1) (a8 (q_c aD hr ae (a8 (q_v 0) aa)) aa))) aa))))))))), ?_⟩
 obtain ⟨r, F', d, ts, n, rfl, R, hd, hn, hR⟩ := h
 have hR : Res K A r F' H d ts.length (Vablda.argOf (parse n) d ts) Q E := hR
 unfold Vablda.argOf at hR
 walk_at "rd"
 refine R.call (by decide) ⟨r, F', d, ts, rfl, R, ?_⟩
 by_cases e : kd ts = "name" /\ kd (ts.drop 1) = "="
 ·rw [decide_eq_true e.1, decide_eq_true e.2]
  obtain ⟨e1, e2⟩ := nZ R.gd e
  rw [if_pos ⟨e1, e2⟩] at hR
  have hR := yS hR (g' := Vablda.name 7 ts fun x u => Vablda.sign "=" u fun u2 => one (parse n .expr d u2) fun e q => got [.node 45 [x, e] (Vablda.placeOf x)] q) (by
   rw [sQ e1, jG e2, List.drop_drop]; rfl)
  refine lc ⟨r, F', d, ts, 7, rfl, rfl, R, dY hR (Grow.refl _ _ _) R fun F1 H1 v1 G1 _ R1 hl1 ht1 hR1 => R1.call (by decide) (eg hR1 G1 R1 (by decide) fun v2 H2 G2 g2 R2 hl2 _ hR2 => ?_)⟩
  obtain ⟨a3, dx3, dl3, pl3, rfl, h3⟩ := ht1.kp
  refine ⟨dx3, _, _, R2.sub _ _ h3, rfl, r, F1, d, _, n, rfl, R2, hd, by omega, aF hR2 G2 fun t4 ts4 F4 H4 v4 G4 g4 R4 hlt4 ht4 hR4 => ⟨(by rw [sizeLine_eq]; decide), fun p hp => ?_⟩⟩
  obtain ⟨G5, R5, L5⟩ := aL (vs := [.ref a3, v4]) (xs := [Vablda.leafOf 7 ts, t4]) G4 R4 hp (.cons (ht1.mono g4.up) (.cons ht4 .nil))
  exact aU (kk := 45) (pp := Vablda.placeOf (Vablda.leafOf 7 ts)) G5 R5 L5 fun F6 H6 v6 G6 R6 ht6 _ _ => hR4.out G6 R6 (by omega) ht6
 ·rw [if_neg (oq R.gd e)] at hR
  have e' : (decide (kd ts = "name") && decide (kd (ts.drop 1) = "=")) = false := by
   rw [<- Bool.decide_and]; exact decide_eq_false e
  rw [e']
  exact iA ⟨r, F', d, ts, n, rfl, R, hd, by omega, hR⟩
abbrev fD : Stmt := top 127
theorem iF : ai ["reader", "label"] ["reader"] (ad fD) := by walk_at "sc"
theorem nM (T : Txt P w K mg A) (F : Fd K mg "read_entry" fD) (aP : Fn P w K mg base "read_name" k ["reader", "kind"] (kL K A)) (ah : Md P w K mg base A.rdr "take" k ["self", "kind"] (bM K A)) (aD : Fn P w K mg base "read_expr" k ["reader"] (spG K A j (gW .expr) 10)) (ay : Fn P w K mg base "node" k ["kind", "place", "parts"] (aX A))  : Fn P w K mg base "read_entry" (k + 1) ["reader"] (spG K A j pO 0) := by
 refine Fn.of1 F iF (fun _ _ _ _ _ _ _ => rfl) fun g cdv Ar outer s H a Q E hr h => ⟨_, (a9 (aq (i := 1) (q_c aP hr ae (a8 (q_v 0) (a8 (q_g T.g_LABEL) aa))) iF.nd) (a9 (aA (q_m T.cl_rdr ah hr ae (q_v 0) (a8 aw aa))) (ac (aj (q_c ay hr ae (a8 (q_g T.g_ENTRY) (a8 (q_f T.cl_tree T.na_tree_place (q_v 1)) (a8 (aJ (a8 (q_v 1) (a8 (q_c aD hr ae (a8 (q_v 0) aa)) aa))) aa)))))))), ?_⟩
 obtain ⟨r, F', d, ts, n, rfl, R, hd, hn, hR⟩ := h
 have hR : Res K A r F' H d ts.length (Vablda.fieldOf (parse n) d ts) Q E := hR
 unfold Vablda.fieldOf at hR
 walk_at "rd"
 refine ⟨r, F', d, ts, 7, rfl, rfl, R, dY hR (Grow.refl _ _ _) R fun F1 H1 v1 G1 _ R1 hl1 ht1 hR1 => R1.call (by decide) (eg hR1 G1 R1 (by decide) fun v2 H2 G2 g2 R2 hl2 _ hR2 => ?_)⟩
 obtain ⟨a3, dx3, dl3, pl3, rfl, h3⟩ := ht1.kp
 refine ⟨dx3, _, _, R2.sub _ _ h3, rfl, r, F1, d, _, n, rfl, R2, hd, by omega, aF hR2 G2 fun t4 ts4 F4 H4 v4 G4 g4 R4 hlt4 ht4 hR4 => ⟨(by rw [sizeLine_eq]; decide), fun p hp => ?_⟩⟩
 obtain ⟨G5, R5, L5⟩ := aL (vs := [.ref a3, v4]) (xs := [Vablda.leafOf 7 ts, t4]) G4 R4 hp (.cons (ht1.mono g4.up) (.cons ht4 .nil))
 exact aU (kk := 51) (pp := Vablda.placeOf (Vablda.leafOf 7 ts)) G5 R5 L5 fun F6 H6 v6 G6 R6 ht6 _ _ => hR4.out G6 R6 (by omega) ht6
abbrev i8 : Stmt := top 117
theorem fq : ai ["reader", "place", "parts"] ["reader"] (ad i8) := by walk_at "sc"
theorem qj (T : Txt P w K mg A) (F : Fd K mg "read_call" i8) (aB : Md P w K mg base A.rdr "enter" k ["self", "bracket"] (dh K A)) (dG : Fn P w K mg base "read_row" k ["reader", "closing", "read_part"] (qS P w K mg base A k0)) (au : Md P w K mg base A.rdr "leave" k ["self", "bracket"] (ci K A)) (ay : Fn P w K mg base "node" k ["kind", "place", "parts"] (aX A)) (rQ : Fn P w K mg base "read_arg" k0 ["reader"] (spG K A j xI 10)) : Fn P w K mg base "read_call" (k + 1) ["reader"] (spG K A (j + 1) o8 0) := by
 refine Fn.of1 F fq (fun _ _ _ _ _ _ _ => rfl) fun g cdv Ar outer s H a Q E hr h => ⟨_, (a9 (aq (i := 1) (q_f T.cl_tok T.na_tok_place (q_m T.cl_rdr aB hr ae (q_v 0) (a8 aw aa))) fq.nd) (a9 (aq (i := 2) (q_c dG hr ae (a8 (q_v 0) (a8 aw (a8 (oQ rQ) aa)))) fq.nd) (a9 (aA (q_m T.cl_rdr au hr ae (q_v 0) (a8 aw aa))) (ac (aj (q_c ay hr ae (a8 (q_g T.g_CALL) (a8 (q_v 1) (a8 (q_v 2) aa))))))))), ?_⟩
 obtain ⟨r, F', d, ts, n, rfl, R, hd, hn, hR⟩ := h
 have hR : Res K A r F' H d ts.length (o8 n d ts) Q E := hR
 unfold o8 at hR
 walk_at "rd"
 refine R.call (by decide) (dF hR (Grow.refl _ _ _) R (by decide) hd.1 fun v1 H1 G1 _ R1 hl1 hd1 hv1 hR1 => ?_)
 rw [aM R1.gd] at hR1
 obtain ⟨a1, dx1, fs1, rfl, h1, h2, _⟩ := hv1.place R1.sub
 refine ⟨dx1, _, _, h1, h2, fun v hv => ⟨r, F', d + 1, ts.drop 1, n, ")", j, xI, fun m u => parse m .args (d + 1) u, 10, rfl, rfl, hv, R1, ⟨hd1, by omega⟩, by omega, fun _ _ => rfl, eW hR1 G1 fun l2 ts2 F2 H2 p2 G2 _ R2 hl2 _ L2 hR2 => ?_⟩⟩
 refine R2.call (by decide) (cX hR2 G2 R2 (by decide) fun H3 G3 g3 R3 hl3 hR3 => ?_)
 exact aU (kk := 65) (pp := (next ts).place) G3 R3 (L2.grow g3 R2 R3) fun F6 H6 v6 G6 R6 ht6 _ _ => hR3.out G6 R6 (by omega) ht6
abbrev fi : Stmt := top 121
theorem eN : ai ["reader", "place", "part"] ["reader"] (ad fi) := by walk_at "sc"
theorem ny (T : Txt P w K mg A) (F : Fd K mg "read_index" fi) (aB : Md P w K mg base A.rdr "enter" k ["self", "bracket"] (dh K A)) (aD : Fn P w K mg base "read_expr" k ["reader"] (spG K A j (gW .expr) 10)) (au : Md P w K mg base A.rdr "leave" k ["self", "bracket"] (ci K A)) (ay : Fn P w K mg base "node" k ["kind", "place", "parts"] (aX A))  : Fn P w K mg base "read_index" (k + 1) ["reader"] (spG K A (j + 1) ki 0) := by
 refine Fn.of1 F eN (fun _ _ _ _ _ _ _ => rfl) fun g cdv Ar outer s H a Q E hr h => ⟨_, (a9 (aq (i := 1) (q_f T.cl_tok T.na_tok_place (q_m T.cl_rdr aB hr ae (q_v 0) (a8 aw aa))) eN.nd) (a9 (aq (i := 2) (q_c aD hr ae (a8 (q_v 0) aa)) eN.nd) (a9 (aA (q_m T.cl_rdr au hr ae (q_v 0) (a8 aw aa))) (ac (aj (q_c ay hr ae (a8 (q_g T.g_INDEX) (a8 (q_v 1) (a8 (aJ (a8 (q_v 2) aa)) aa))))))))), ?_⟩
 obtain ⟨r, F', d, ts, n, rfl, R, hd, hn, hR⟩ := h
 have hR : Res K A r F' H d ts.length (ki n d ts) Q E := hR
 unfold ki at hR
 walk_at "rd"
 refine R.call (by decide) (dF hR (Grow.refl _ _ _) R (by decide) hd.1 fun v1 H1 G1 _ R1 hl1 hd1 hv1 hR1 => ?_)
 obtain ⟨a1, dx1, fs1, rfl, h1, h2, _⟩ := hv1.place R1.sub
 refine ⟨dx1, _, _, h1, h2, r, F', d + 1, ts.drop 1, n, rfl, R1, ⟨hd1, by omega⟩, by omega, aF hR1 G1 fun t2 ts2 F2 H2 v2 G2 _ R2 hl2 ht2 hR2 => ?_⟩
 refine R2.call (by decide) (cX hR2 G2 R2 (by decide) fun H3 G3 g3 R3 hl3 hR3 => ⟨(by rw [sizeLine_eq]; decide), fun p hp => ?_⟩)
 obtain ⟨G5, R5, L5⟩ := aL (vs := [v2]) (xs := [t2]) G3 R3 hp (.cons ht2 .nil)
 exact aU (kk := 66) (pp := (next ts).place) G5 R5 L5 fun F6 H6 v6 G6 R6 ht6 _ _ => hR3.out G6 R6 (by omega) ht6
abbrev cn : Stmt := top 115
theorem da : ai ["reader", "place"] ["reader"] (ad cn) := by walk_at "sc"
theorem iy (T : Txt P w K mg A) (F : Fd K mg "read_behind_atom" cn) (ag : Md P w K mg base A.rdr "sees" k ["self", "kind"] (bQ A)) (qL : Fn P w K mg base "read_call" k ["reader"] (spG K A (j + 1) o8 0)) (pH : Fn P w K mg base "read_index" k ["reader"] (spG K A (j + 1) ki 0)) (ah : Md P w K mg base A.rdr "take" k ["self", "kind"] (bM K A)) (aP : Fn P w K mg base "read_name" k ["reader", "kind"] (kL K A)) (ay : Fn P w K mg base "node" k ["kind", "place", "parts"] (aX A))  : Fn P w K mg base "read_behind_atom" (k + 1) ["reader"] (spG K A (j + 1) io 0) := by
 refine Fn.of1 F da (fun _ _ _ _ _ _ _ => rfl) fun g cdv Ar outer s H a Q E hr h => ⟨_, (a9 (aE (c6 (q_m T.cl_rdr ag hr ae (q_v 0) (a8 aw aa))) (ac (aj (q_c qL hr ae (a8 (q_v 0) aa)))) am) (a9 (aE (c6 (q_m T.cl_rdr ag hr ae (q_v 0) (a8 aw aa))) (ac (aj (q_c pH hr ae (a8 (q_v 0) aa)))) am) (a9 (aq (i := 1) (q_f T.cl_tok T.na_tok_place (q_m T.cl_rdr ah hr ae (q_v 0) (a8 aw aa))) da.nd) (ac (aj (q_c ay hr ae (a8 (q_g T.g_DOT) (a8 (q_v 1) (a8 (aJ (a8 (q_c aP hr ae (a8 (q_v 0) (a8 (q_g T.g_LABEL) aa))) aa)) aa))))))))), ?_⟩
 obtain ⟨r, F', d, ts, n, rfl, R, hd, hn, hR⟩ := h
 have hR : Res K A r F' H d ts.length (io n d ts) Q E := hR
 unfold io at hR
 rw [aM R.gd, aM R.gd] at hR
 walk_at "rd"
 refine R.call (by decide) ⟨r, F', d, ts, _, rfl, rfl, R, ?_⟩
 by_cases e1 : kd ts = "("
 ·rw [decide_eq_true e1] at hR ⊢
  rw [if_pos rfl] at hR
  exact bU ⟨r, F', d, ts, n, rfl, R, hd, by omega, hR⟩
 ·rw [decide_eq_false e1] at hR ⊢
  rw [if_neg (by decide)] at hR
  refine c9 (R.call (by decide) ⟨r, F', d, ts, _, rfl, rfl, R, ?_⟩)
  by_cases e2 : kd ts = "["
  ·rw [decide_eq_true e2] at hR ⊢
   rw [if_pos rfl] at hR
   exact bU ⟨r, F', d, ts, n, rfl, R, hd, by omega, hR⟩
  ·rw [decide_eq_false e2] at hR ⊢
   rw [if_neg (by decide)] at hR
   unfold zw at hR
   refine c9 (R.call (by decide) (eg hR (Grow.refl _ _ _) R (by decide) fun v1 H1 G1 _ R1 hl1 hv1 hR1 => ?_))
   obtain ⟨a1, dx1, fs1, rfl, h1, h2, _⟩ := hv1.place R1.sub
   refine ⟨dx1, _, _, h1, h2, r, F', d, ts.drop 1, 7, rfl, rfl, R1, dY hR1 G1 R1 fun F2 H2 v2 G2 _ R2 hl2 ht2 hR2 => ⟨(by rw [sizeLine_eq]; decide), fun p hp => ?_⟩⟩
   obtain ⟨G5, R5, L5⟩ := aL (vs := [v2]) (xs := [_]) G2 R2 hp (.cons ht2 .nil)
   exact aU (kk := 67) (pp := (next ts).place) G5 R5 L5 fun F6 H6 v6 G6 R6 ht6 _ _ => hR2.out G6 R6 (by omega) ht6
end
end L2
namespace L2
open PySem PySem.Spec PyProof.Rows
open Vablda (Got next got andThen one parse)
def vZ (n d : Nat) (ts : List Tk) : Got := Vablda.opened "(" d ts fun r => one (parse n .expr (d + 1) r) fun e q => Vablda.sign ")" q fun u => got [e] u
def rb (n d : Nat) (ts : List Tk) : Got := Vablda.opened "[" d ts fun r => Vablda.listOf (parse n) (d + 1) (next ts) r
def uQ (n d : Nat) (ts : List Tk) : Got := Vablda.opened "{" d ts fun r => andThen (if Vablda.isSign "}" r = true then got [] r else parse n .fields (d + 1) r) fun l q => Vablda.sign "}" q fun u => got [.node 50 l (next ts).place] u
def jU (n d p : Nat) (e : Tr) (ts : List Tk) : Got := Vablda.word "for" ts fun q0 => Vablda.name 3 q0 fun x q => Vablda.word "in" q fun u => one (parse n .expr d u) fun s v =>
 andThen (if Vablda.isWord "if" v = true then one (parse n .expr d (v.drop 1)) fun c w => got [e, x, s, c] w else got [e, x, s] v) fun l w => Vablda.sign "]" w fun z => got [.node 49 l p] z
def oK (K : Frag) (A : Ad) (j : Nat) : Sp := sp3 fun a b c H Q E => ∃ (r : Addr) (F : Hp) (d : Nat) (ts : List Tk) (n p : Nat) (e : Tr) (n0 : Nat), a = .ref r /\ b = .int (p : Nat) /\ TreeAt A.tree F c e /\ Rs A r F H (d + 1) ts /\ (d + 1 <= 12 /\ 12 < d + 1 + j) /\ 20 * ts.length + 10 <= n /\ ts.length <= n0 /\ Res K A r F H d n0 (jU n (d + 1) p e ts) Q E
theorem kH {ts : List Tk} (g : Good ts) {s : String} (hs : s ∈ kS) (h : kd ts = Str.ofString s) : c8 (next ts) = [] := by
 have e := bh g hs
 rw [decide_eq_true h] at e
 have e : ((next ts).kind == 2 && (next ts).text == Vablda.str s) = true := e
 rw [Bool.and_eq_true] at e
 unfold c8
 rw [beq_iff_eq.mp e.1]
 rfl
theorem wU {ts : List Tk} (g : Good ts) (n d : Nat) : Vablda.atomOf (parse n) d ts = if kd ts = "(" then vZ n d ts else if kd ts = "[" then rb n d ts else if kd ts = "{" then uQ n d ts else
  match aZ be (Sum.inr (kd ts)) with | some (.int nk) => got [.leaf nk.toNat (c8 (next ts)) (next ts).place] (ts.drop 1) | _ => Vablda.wrong ts := by
 unfold Vablda.atomOf
 have k3 := Ab g
 have k4 := pc g
 rw [iq g, bh g, bh g, bh g, aM g, aM g, aM g]
 by_cases h1 : kd ts = "number"
 ·rw [if_pos (k3.mpr h1), h1, if_neg (by decide), if_neg (by decide), if_neg (by decide)]
  show got [Vablda.leafOf 1 ts] _ = got [.leaf 1 (c8 (next ts)) _] _
  unfold Vablda.leafOf c8
  rw [k3.mpr h1]; rfl
 rw [if_neg (fun z => h1 (k3.mp z))]
 by_cases h2 : kd ts = "text"
 ·rw [if_pos (k4.mpr h2), h2, if_neg (by decide), if_neg (by decide), if_neg (by decide)]
  show got [Vablda.leafOf 2 ts] _ = got [.leaf 2 (c8 (next ts)) _] _
  unfold Vablda.leafOf c8
  rw [k4.mpr h2]; rfl
 rw [if_neg (fun z => h2 (k4.mp z))]
 by_cases h3 : kd ts = "name"
 ·have hi : Vablda.isName ts = true := by rw [iq g, decide_eq_true h3]
  rw [h3]
  show got [Vablda.leafOf 3 ts] _ = got [.leaf 3 (c8 (next ts)) _] _
  unfold Vablda.leafOf
  rw [og hi]
 rw [decide_eq_false h3, if_neg (by decide)]
 by_cases h4 : kd ts = "true"
 ·rw [kH g (by decide) h4, h4]; rfl
 by_cases h5 : kd ts = "false"
 ·rw [kH g (by decide) h5, h5]; rfl
 by_cases h6 : kd ts = "none"
 ·rw [kH g (by decide) h6, h6]; rfl
 rw [decide_eq_false h4, if_neg (by decide), decide_eq_false h5, if_neg (by decide), decide_eq_false h6, if_neg (by decide)]
 by_cases h7 : kd ts = "("
 ·rw [h7]; rfl
 by_cases h8 : kd ts = "["
 ·rw [h8]; rfl
 by_cases h9 : kd ts = "{"
 ·rw [h9]; rfl
 rw [decide_eq_false h7, if_neg (by decide), decide_eq_false h8, if_neg (by decide), decide_eq_false h9, if_neg (by decide), if_neg h7, if_neg h8, if_neg h9]
 have e : aZ be (Sum.inr (kd ts)) = none := by
  have m1 : ¬ (Str.ofString "number" = kd ts) := fun e => h1 e.symm
  have m2 : ¬ (Str.ofString "text" = kd ts) := fun e => h2 e.symm
  have m3 : ¬ (Str.ofString "name" = kd ts) := fun e => h3 e.symm
  have m4 : ¬ (Str.ofString "true" = kd ts) := fun e => h4 e.symm
  have m5 : ¬ (Str.ofString "false" = kd ts) := fun e => h5 e.symm
  have m6 : ¬ (Str.ofString "none" = kd ts) := fun e => h6 e.symm
  unfold aZ be
  simp [List.find?, m1, m2, m3, m4, m5, m6]
 rw [e]
theorem vI (s : Str) (v : V) (h : aZ be (Sum.inr s) = some v) : ∃ n : Nat, v = .int (n : Nat) /\ s ≠ "end" := by
 unfold aZ be at h
 obtain ⟨p, hp, rfl⟩ := Option.map_eq_some_iff.mp h
 have hm := List.mem_of_find?_eq_some hp
 have hk := List.find?_some hp
 simp only [List.mem_cons, List.mem_nil_iff, or_false] at hm
 rcases hm with rfl | rfl | rfl | rfl | rfl | rfl
 ·exact ⟨1, rfl, by rw [<- Sum.inr.inj (of_decide_eq_true hk)]; decide⟩
 ·exact ⟨2, rfl, by rw [<- Sum.inr.inj (of_decide_eq_true hk)]; decide⟩
 ·exact ⟨3, rfl, by rw [<- Sum.inr.inj (of_decide_eq_true hk)]; decide⟩
 ·exact ⟨4, rfl, by rw [<- Sum.inr.inj (of_decide_eq_true hk)]; decide⟩
 ·exact ⟨5, rfl, by rw [<- Sum.inr.inj (of_decide_eq_true hk)]; decide⟩
 ·exact ⟨6, rfl, by rw [<- Sum.inr.inj (of_decide_eq_true hk)]; decide⟩
theorem xk (n d : Nat) (o : Tk) (ts : List Tk) : Vablda.listOf (parse n) d o ts = if Vablda.isSign "]" ts = true then (Vablda.sign "]" ts fun z => got [.node 48 [] o.place] z) else one (parse n .expr d ts) fun e r =>
  if Vablda.isWord "for" r = true then jU n d o.place e r else andThen (jl (Vablda.isSign ",") (parse n .items d) [e] r) fun l q => Vablda.sign "]" q fun z => got [.node 48 l o.place] z := by
 unfold Vablda.listOf
 by_cases h1 : Vablda.isSign "]" ts = true
 ·rw [if_pos h1, if_pos h1, jG h1]
 ·rw [if_neg h1, if_neg h1]
  congr 1
  funext e r
  by_cases h2 : Vablda.isWord "for" r = true
  ·rw [if_pos h2, if_pos h2]
   unfold jU
   have : ∀ f, Vablda.word "for" r f = f (r.drop 1) := fun f => by unfold Vablda.word; rw [if_pos h2]
   rw [this]
   congr 1
   funext x q
   congr 1
   funext u
   congr 1
   funext s v
   by_cases h3 : Vablda.isWord "if" v = true
   ·rw [if_pos h3, if_pos h3, br]; rfl
   ·rw [if_neg h3, if_neg h3]; rfl
  ·rw [if_neg h2, if_neg h2]
   unfold jl
   by_cases h3 : Vablda.isSign "," r = true
   ·rw [if_pos h3, if_pos h3, eT]; rfl
   ·rw [if_neg h3, if_neg h3]; rfl
theorem wN (n d : Nat) (ts : List Tk) : Vablda.postTailOf (parse n) d ts = if Vablda.isSign "(" ts = true ∨ Vablda.isSign "[" ts = true ∨ Vablda.isSign "." ts = true then one (io n d ts) fun x r => andThen (parse n .postTail d r) fun l q => got (x :: l) q else got [] ts := by
 unfold Vablda.postTailOf io
 have sg : ∀ (s : String) (u : List Tk) (x : Tr) (h : Tr -> List Tk -> Got), (one (Vablda.sign s u fun z => got [x] z) h) = Vablda.sign s u fun z => h x z := fun s u x h => by
  unfold Vablda.sign
  by_cases e : Vablda.isSign s u = true
  ·rw [if_pos e, if_pos e]; rfl
  ·rw [if_neg e, if_neg e]; rfl
 have op : ∀ (s : String) (u : List Tk) (f : List Tk -> Got) (h : Tr -> List Tk -> Got), one (Vablda.opened s d u f) h = Vablda.opened s d u fun z => one (f z) h := fun s u f h => by
  unfold Vablda.opened
  by_cases e : Vablda.isSign s u = false
  ·rw [if_pos e, if_pos e]; rfl
  ·rw [if_neg e, if_neg e]
   by_cases e2 : Vablda.BRACKETS <= d
   ·rw [if_pos e2, if_pos e2]; rfl
   ·rw [if_neg e2, if_neg e2]
 have ao : ∀ (g : Got) (f : List Tr -> List Tk -> Got) (h : Tr -> List Tk -> Got), one (andThen g f) h = andThen g fun l q => one (f l q) h := fun g f h => by cases g <;> rfl
 by_cases h1 : Vablda.isSign "(" ts = true
 ·rw [if_pos h1, if_pos (.inl h1), if_pos h1]
  unfold o8
  rw [op]
  congr 1
  funext z
  rw [ao]
  congr 1
  funext l q
  rw [sg]
 ·rw [if_neg h1]
  by_cases h2 : Vablda.isSign "[" ts = true
  ·rw [if_pos h2, if_pos (.inr (.inl h2)), if_neg h1, if_pos h2]
   unfold ki
   rw [op]
   congr 1
   funext z
   rw [wJ]
   congr 1
   funext l q
   rw [sg]
  ·rw [if_neg h2]
   by_cases h3 : Vablda.isSign "." ts = true
   ·rw [if_pos h3, if_pos (.inr (.inr h3)), if_neg h1, if_neg h2]
    unfold zw
    rw [jG h3]
    unfold Vablda.name
    by_cases e : Vablda.isName (ts.drop 1) = true
    ·rw [if_pos e, if_pos e]; rfl
    ·rw [if_neg e, if_neg e]; rfl
   ·rw [if_neg h3, if_neg (fun z => z.elim h1 fun z => z.elim h2 h3)]
section
variable {P : Program} {w : World} {K : Frag} {mg : Str -> Option Value} {base : Heap} {A : Ad} {k k0 j : Nat}
abbrev bS : Stmt := top 123
theorem cG : ai ["reader", "tree"] ["reader"] (ad bS) := by walk_at "sc"
theorem gf (T : Txt P w K mg A) (F : Fd K mg "read_parenthesized" bS) (aB : Md P w K mg base A.rdr "enter" k ["self", "bracket"] (dh K A)) (aD : Fn P w K mg base "read_expr" k ["reader"] (spG K A j (gW .expr) 10)) (au : Md P w K mg base A.rdr "leave" k ["self", "bracket"] (ci K A))  : Fn P w K mg base "read_parenthesized" (k + 1) ["reader"] (spG K A (j + 1) vZ 0) := by
 refine Fn.of1 F cG (fun _ _ _ _ _ _ _ => rfl) fun g cdv Ar outer s H a Q E hr h => ⟨_, (a9 (aA (q_m T.cl_rdr aB hr ae (q_v 0) (a8 aw aa))) (a9 (aq (i := 1) (q_c aD hr ae (a8 (q_v 0) aa)) cG.nd) (a9 (aA (q_m T.cl_rdr au hr ae (q_v 0) (a8 aw aa))) (ac (aj (q_v 1)))))), ?_⟩
 obtain ⟨r, F', d, ts, n, rfl, R, hd, hn, hR⟩ := h
 have hR : Res K A r F' H d ts.length (vZ n d ts) Q E := hR
 unfold vZ at hR
 walk_at "rd"
 refine R.call (by decide) (dF hR (Grow.refl _ _ _) R (by decide) hd.1 fun v1 H1 G1 _ R1 hl1 hd1 hv1 hR1 => ?_)
 refine ⟨r, F', d + 1, ts.drop 1, n, rfl, R1, ⟨hd1, by omega⟩, by omega, aF hR1 G1 fun t2 ts2 F2 H2 v2 G2 _ R2 hl2 ht2 hR2 => ?_⟩
 refine R2.call (by decide) (cX hR2 G2 R2 (by decide) fun H3 G3 g3 R3 hl3 hR3 => hR3.out G3 R3 (by omega) ht2)
abbrev eG : Stmt := top 126
theorem dM : ai ["reader", "place", "entries"] ["reader"] (ad eG) := by walk_at "sc"
theorem lL (T : Txt P w K mg A) (F : Fd K mg "read_record" eG) (aB : Md P w K mg base A.rdr "enter" k ["self", "bracket"] (dh K A)) (dG : Fn P w K mg base "read_row" k ["reader", "closing", "read_part"] (qS P w K mg base A k0)) (au : Md P w K mg base A.rdr "leave" k ["self", "bracket"] (ci K A)) (ay : Fn P w K mg base "node" k ["kind", "place", "parts"] (aX A)) (p8 : Fn P w K mg base "read_entry" k0 ["reader"] (spG K A j pO 0)) : Fn P w K mg base "read_record" (k + 1) ["reader"] (spG K A (j + 1) uQ 0) := by
 refine Fn.of1 F dM (fun _ _ _ _ _ _ _ => rfl) fun g cdv Ar outer s H a Q E hr h => ⟨_, (a9 (aq (i := 1) (q_f T.cl_tok T.na_tok_place (q_m T.cl_rdr aB hr ae (q_v 0) (a8 aw aa))) dM.nd) (a9 (aq (i := 2) (q_c dG hr ae (a8 (q_v 0) (a8 aw (a8 (oQ p8) aa)))) dM.nd) (a9 (aA (q_m T.cl_rdr au hr ae (q_v 0) (a8 aw aa))) (ac (aj (q_c ay hr ae (a8 (q_g T.g_RECORD) (a8 (q_v 1) (a8 (q_v 2) aa))))))))), ?_⟩
 obtain ⟨r, F', d, ts, n, rfl, R, hd, hn, hR⟩ := h
 have hR : Res K A r F' H d ts.length (uQ n d ts) Q E := hR
 unfold uQ at hR
 walk_at "rd"
 refine R.call (by decide) (dF hR (Grow.refl _ _ _) R (by decide) hd.1 fun v1 H1 G1 _ R1 hl1 hd1 hv1 hR1 => ?_)
 rw [aM R1.gd] at hR1
 obtain ⟨a1, dx1, fs1, rfl, h1, h2, _⟩ := hv1.place R1.sub
 refine ⟨dx1, _, _, h1, h2, fun v hv => ⟨r, F', d + 1, ts.drop 1, n, "}", j, pO, fun m u => parse m .fields (d + 1) u, 0, rfl, rfl, hv, R1, ⟨hd1, by omega⟩, by omega, fun _ _ => rfl, eW hR1 G1 fun l2 ts2 F2 H2 p2 G2 _ R2 hl2 _ L2 hR2 => ?_⟩⟩
 refine R2.call (by decide) (cX hR2 G2 R2 (by decide) fun H3 G3 g3 R3 hl3 hR3 => ?_)
 exact aU (kk := 50) (pp := (next ts).place) G3 R3 (L2.grow g3 R2 R3) fun F6 H6 v6 G6 R6 ht6 _ _ => hR3.out G6 R6 (by omega) ht6
abbrev d7 : Stmt := top 125
theorem cK : ai ["reader", "place", "first", "name", "parts"] ["reader", "place", "first"] (ad d7) := by walk_at "sc"
theorem kW (T : Txt P w K mg A) (F : Fd K mg "read_list_for" d7) (ah : Md P w K mg base A.rdr "take" k ["self", "kind"] (bM K A)) (aP : Fn P w K mg base "read_name" k ["reader", "kind"] (kL K A)) (aD : Fn P w K mg base "read_expr" k ["reader"] (spG K A j (gW .expr) 10)) (ag : Md P w K mg base A.rdr "sees" k ["self", "kind"] (bQ A)) (ak : Md P w K mg base A.rdr "step" k ["self"] (d4 A)) (au : Md P w K mg base A.rdr "leave" k ["self", "bracket"] (ci K A)) (ay : Fn P w K mg base "node" k ["kind", "place", "parts"] (aX A))  : Fn P w K mg base "read_list_for" (k + 1) ["reader", "place", "first"] (oK K A j) := by
 refine Fn.of3 F cK (fun _ _ _ _ _ _ _ _ _ => rfl) fun g cdv Ar outer s H a b c Q E hr h => ⟨_, (a9 (aA (q_m T.cl_rdr ah hr ae (q_v 0) (a8 aw aa))) (a9 (aq (i := 3) (q_c aP hr ae (a8 (q_v 0) (a8 (q_g T.g_NAME) aa))) cK.nd) (a9 (aA (q_m T.cl_rdr ah hr ae (q_v 0) (a8 aw aa))) (a9 (aq (i := 4) (aJ (a8 (q_v 2) (a8 (q_v 3) (a8 (q_c aD hr ae (a8 (q_v 0) aa)) aa)))) cK.nd) (a9 (aE (c6 (q_m T.cl_rdr ag hr ae (q_v 0) (a8 aw aa))) (a9 (aA (gj T.cl_rdr ak hr ae (q_v 0))) (ac (aA (cD (q_v 4) (q_c aD hr ae (a8 (q_v 0) aa)))))) am) (a9 (aA (q_m T.cl_rdr au hr ae (q_v 0) (a8 aw aa))) (ac (aj (q_c ay hr ae (a8 (q_g T.g_LIST_FOR) (a8 (q_v 1) (a8 (q_v 4) aa)))))))))))), ?_⟩
 obtain ⟨r, F', d, ts, n, p, e, n0, rfl, rfl, he, R, hd, hn, hn0, hR⟩ := h
 unfold jU at hR
 walk_at "rd"
 refine R.call (by decide) (ej hR (Grow.refl _ _ _) R (by decide) fun v1 H1 G1 _ R1 hl1 _ hR1 => ?_)
 refine ⟨r, F', d + 1, ts.drop 1, 3, rfl, rfl, R1, dY hR1 G1 R1 fun F2 H2 v2 G2 g2 R2 hl2 ht2 hR2 => ?_⟩
 refine R2.call (by decide) (ej hR2 G2 R2 (by decide) fun v3 H3 G3 g3 R3 hl3 _ hR3 => ?_)
 refine ⟨r, F2, d + 1, _, n, rfl, R3, hd, by omega, aF hR3 G3 fun t4 ts4 F4 H4 v4 G4 g4 R4 hl4 ht4 hR4 => ⟨(by rw [sizeLine_eq]; decide), fun q hq => ?_⟩⟩
 have he4 := he.mono G4.up
 have ht2' := ht2.mono g4.up
 obtain ⟨G5, R5, L5⟩ := aL (vs := [c, v2, v4]) (xs := [e, _, t4]) G4 R4 hq (.cons he4 (.cons ht2' (.cons ht4 .nil)))
 rw [bh R5.gd] at hR4
 have fin : ∀ F6 H6 l ts6, Grow r F' H F6 H6 -> Rs A r F6 H6 (d + 1) ts6 -> ts6.length <= ts4.length -> Ll A H F6 H6 q l -> Res K A r F' H d n0 (Vablda.sign "]" ts6 fun z => got [.node 49 l p] z) Q E ->
   ∃ dx fs, H6 r = some (.ins A.rdr dx fs) /\ fs.lookup ("leave" : Str) = none /\ ci K A [.ref r, .str "]"] H6 (fun _ H1 => aX A [.int 49, .int p, .ref q] H1 Q E) E := fun F6 H6 l ts6 G6 R6 hl6 L6 hR6 =>
  R6.call (by decide) (cX hR6 G6 R6 (by decide) fun H7 G7 g7 R7 hl7 hR7 => aU (kk := 49) (pp := p) G7 R7 (L6.grow g7 R6 R7) fun F8 H8 v8 G8 R8 ht8 _ _ => hR7.out G8 R8 (by omega) ht8)
 refine R5.call (by decide) ⟨r, F4, d + 1, ts4, _, rfl, rfl, R5, ?_⟩
 by_cases ei : kd ts4 = "if"
 ·rw [decide_eq_true ei] at hR4 ⊢
  rw [if_pos rfl, br] at hR4
  have hk0 := R5.ne0 ei (by decide)
  have hdr := R5.dr hk0
  refine bU (R5.call (by decide) ⟨r, F4, d + 1, ts4, rfl, R5, hk0, fun v6 H6 G6 R6 _ => ?_⟩)
  have L6 := L5.grow G6 R5 R6
  obtain ⟨vs6, hvs6, htr6⟩ := L6.at_
  refine ⟨⟨_, hvs6⟩, r, F4, d + 1, ts4.drop 1, n, rfl, R6, hd, by omega, aF hR4 (G5.trans G6 R6.fr) fun t7 ts7 F7 H7 v7 G7 g7 R7 hl7 ht7 hR7 => ?_⟩
  have L7 := L6.grow g7 R6 R7
  obtain ⟨vs7, hvs7, htr7⟩ := L7.at_
  refine ⟨vs7, hvs7, by rw [htr7.len, sizeLine_eq]; (show 3 < 16777216); decide, ?_⟩
  obtain ⟨G8, R8, L8⟩ := cf G7 R7 L7 (htr7.snoc ht7)
  exact fin _ _ _ _ G8 R8 (by omega) L8 hR7
 ·rw [decide_eq_false ei] at hR4 ⊢
  rw [if_neg (by decide)] at hR4
  exact c9 (fin _ _ _ _ G5 R5 (Nat.le_refl _) L5 hR4)
abbrev gF : Stmt := top 124
theorem cx : ai ["reader", "place", "parts", "first"] ["reader"] (ad gF) := by walk_at "sc"
theorem pz (T : Txt P w K mg A) (F : Fd K mg "read_list" gF) (aB : Md P w K mg base A.rdr "enter" k ["self", "bracket"] (dh K A)) (ag : Md P w K mg base A.rdr "sees" k ["self", "kind"] (bQ A)) (lA : Fn P w K mg base "read_list_for" k ["reader", "place", "first"] (oK K A j)) (bb : Fn P w K mg base "read_behind_first" k ["reader", "first", "read_part"] (gI P w K mg base A k0)) (au : Md P w K mg base A.rdr "leave" k ["self", "bracket"] (ci K A)) (ay : Fn P w K mg base "node" k ["kind", "place", "parts"] (aX A)) (aD : Fn P w K mg base "read_expr" k ["reader"] (spG K A j (gW .expr) 10)) (pN : Fn P w K mg base "read_expr" k0 ["reader"] (spG K A j (gW .expr) 10)) : Fn P w K mg base "read_list" (k + 1) ["reader"] (spG K A (j + 1) rb 0) := by
 refine Fn.of1 F cx (fun _ _ _ _ _ _ _ => rfl) fun g cdv Ar outer s H a Q E hr h => ⟨_, (a9 (aq (i := 1) (q_f T.cl_tok T.na_tok_place (q_m T.cl_rdr aB hr ae (q_v 0) (a8 aw aa))) cx.nd) (a9 (aq (i := 2) (aJ aa) cx.nd) (a9 (aE (fL (c6 (q_m T.cl_rdr ag hr ae (q_v 0) (a8 aw aa)))) (a9 (aq (i := 3) (q_c aD hr ae (a8 (q_v 0) aa)) cx.nd) (a9 (aE (c6 (q_m T.cl_rdr ag hr ae (q_v 0) (a8 aw aa))) (ac (aj (q_c lA hr ae (a8 (q_v 0) (a8 (q_v 1) (a8 (q_v 3) aa)))))) am) (ac (aq (i := 2) (q_c bb hr ae (a8 (q_v 0) (a8 (q_v 3) (a8 (oQ pN) aa)))) cx.nd)))) am) (a9 (aA (q_m T.cl_rdr au hr ae (q_v 0) (a8 aw aa))) (ac (aj (q_c ay hr ae (a8 (q_g T.g_LIST) (a8 (q_v 1) (a8 (q_v 2) aa)))))))))), ?_⟩
 obtain ⟨r, F', d, ts, n, rfl, R, hd, hn, hR⟩ := h
 have hR : Res K A r F' H d ts.length (rb n d ts) Q E := hR
 unfold rb at hR
 walk_at "rd"
 refine R.call (by decide) (dF hR (Grow.refl _ _ _) R (by decide) hd.1 fun v1 H1 G1 _ R1 hl1 hd1 hv1 hR1 => ?_)
 rw [xk, aM R1.gd] at hR1
 obtain ⟨a1, dx1, fs1, rfl, h1, h2, _⟩ := hv1.place R1.sub
 refine ⟨dx1, _, _, h1, h2, by decide, fun q hq => ?_⟩
 obtain ⟨G2, R2, L2⟩ := aL (vs := []) (xs := []) G1 R1 hq .nil
 have fin : ∀ F6 H6 l ts6 p6, Grow r F' H F6 H6 -> Rs A r F6 H6 (d + 1) ts6 -> ts6.length <= ts.length -> Ll A H F6 H6 p6 l -> Res K A r F' H d ts.length (Vablda.sign "]" ts6 fun z => got [.node 48 l (next ts).place] z) Q E ->
   ∃ dx fs, H6 r = some (.ins A.rdr dx fs) /\ fs.lookup ("leave" : Str) = none /\ ci K A [.ref r, .str "]"] H6 (fun _ H1 => aX A [.int 48, .int (next ts).place, .ref p6] H1 Q E) E := fun F6 H6 l ts6 p6 G6 R6 hl6 L6 hR6 =>
  R6.call (by decide) (cX hR6 G6 R6 (by decide) fun H7 G7 g7 R7 hl7 hR7 => aU (kk := 48) (pp := (next ts).place) G7 R7 (L6.grow g7 R6 R7) fun F8 H8 v8 G8 R8 ht8 _ _ => hR7.out G8 R8 (by omega) ht8)
 refine R2.call (by decide) ⟨r, F', d + 1, ts.drop 1, _, rfl, rfl, R2, ?_⟩
 by_cases e : kd (ts.drop 1) = "]"
 ·rw [decide_eq_true e] at hR1 ⊢
  rw [if_pos rfl] at hR1
  exact lc (fin _ _ _ _ _ G2 R2 (by omega) L2 hR1)
 ·rw [decide_eq_false e] at hR1 ⊢
  rw [if_neg (by decide)] at hR1
  refine iA ⟨r, F', d + 1, ts.drop 1, n, rfl, R2, ⟨hd1, by omega⟩, by omega, aF hR1 G2 fun t3 ts3 F3 H3 v3 G3 _ R3 hl3 ht3 hR3 => ?_⟩
  rw [bh R3.gd] at hR3
  refine R3.call (by decide) ⟨r, F3, d + 1, ts3, _, rfl, rfl, R3, ?_⟩
  by_cases ef : kd ts3 = "for"
  ·rw [decide_eq_true ef] at hR3 ⊢
   rw [if_pos rfl] at hR3
   exact bU ⟨r, F3, d, ts3, n, (next ts).place, t3, ts.length, rfl, rfl, ht3, R3, ⟨hd1, by omega⟩, by omega, by omega, hR3.up G3 (Nat.le_refl _)⟩
  ·rw [decide_eq_false ef] at hR3 ⊢
   rw [if_neg (by decide)] at hR3
   refine c9 fun v hv => ⟨r, F3, d + 1, ts3, n, t3, j, gW .expr, fun m u => parse m .items (d + 1) u, 10, rfl, ht3, hv, R3, ⟨hd1, by omega⟩, by omega, fun _ _ => rfl, eW hR3 G3 fun l4 ts4 F4 H4 p4 G4 _ R4 hl4 _ L4 hR4 => ?_⟩
   exact fin _ _ _ _ _ G4 R4 (by omega) L4 hR4
abbrev gP : Stmt := top 122
theorem jN : ai ["reader", "token"] ["reader"] (ad gP) := by walk_at "sc"
theorem pQ (T : Txt P w K mg A) (F : Fd K mg "read_atom" gP) (aK : Md P w K mg base A.rdr "seen" k ["self"] (kU A)) (gp : Fn P w K mg base "read_parenthesized" k ["reader"] (spG K A (j + 1) vZ 0)) (r6 : Fn P w K mg base "read_list" k ["reader"] (spG K A (j + 1) rb 0)) (nR : Fn P w K mg base "read_record" k ["reader"] (spG K A (j + 1) uQ 0)) (bH : Rz P w K mg base "SyntaxFault" A.R k 3) (ak : Md P w K mg base A.rdr "step" k ["self"] (d4 A)) (fS : Fn P w K mg base "leaf" k ["kind", "place", "data"] (mW A))  : Fn P w K mg base "read_atom" (k + 1) ["reader"] (spG K A (j + 1) (gW .atom) 1) := by
 refine Fn.of1 F jN (fun _ _ _ _ _ _ _ => rfl) fun g cdv Ar outer s H a Q E hr h => ⟨_, (a9 (aq (i := 1) (gj T.cl_rdr aK hr ae (q_v 0)) jN.nd) (a9 (aE (b7 bP (q_f T.cl_tok T.na_tok_kind (q_v 1)) aw) (ac (aj (q_c gp hr ae (a8 (q_v 0) aa)))) am) (a9 (aE (b7 bP (q_f T.cl_tok T.na_tok_kind (q_v 1)) aw) (ac (aj (q_c r6 hr ae (a8 (q_v 0) aa)))) am) (a9 (aE (b7 bP (q_f T.cl_tok T.na_tok_kind (q_v 1)) aw) (ac (aj (q_c nR hr ae (a8 (q_v 0) aa)))) am) (a9 (aE (tD (vq T.t_ATOM_LEAVES (q_f T.cl_tok T.na_tok_kind (q_v 1)) (q_g T.g_ATOM_LEAVES))) (ac (mG bH hr bc (q_f T.cl_tok T.na_tok_place (q_v 1)))) am) (a9 (aA (gj T.cl_rdr ak hr ae (q_v 0))) (ac (aj (q_c fS hr ae (a8 (p9 T.t_ATOM_LEAVES (q_g T.g_ATOM_LEAVES) (q_f T.cl_tok T.na_tok_kind (q_v 1))) (a8 (q_f T.cl_tok T.na_tok_place (q_v 1)) (a8 (q_f T.cl_tok T.na_tok_data (q_v 1)) aa)))))))))))), ?_⟩
 obtain ⟨r, F', d, ts, n, rfl, R, hd, hn, hR⟩ := h
 obtain ⟨n, rfl⟩ : ∃ m, n = m + 1 := ⟨n - 1, by omega⟩
 have hR : Res K A r F' H d ts.length (Vablda.atomOf (parse n) d ts) Q E := hR
 rw [wU R.gd] at hR
 walk_at "rd"
 refine R.call (by decide) ⟨r, F', d, ts, rfl, R, fun v1 hv1 => ?_⟩
 have hv1' := hv1
 obtain ⟨a1, dx1, fs1, rfl, h1, h2, h3, dl, h4, h5⟩ := hv1.place R.sub
 refine ⟨dx1, _, _, h1, h3, ?_⟩
 dsimp only
 rw [show b9 (next ts) = kd ts from rfl] at h3 ⊢
 by_cases e1 : kd ts = "("
 ·rw [if_pos e1] at hR ⊢
  exact ⟨r, F', d, ts, n, rfl, R, hd, by omega, hR⟩
 rw [if_neg e1] at hR ⊢
 refine ⟨dx1, _, _, h1, h3, ?_⟩
 dsimp only
 by_cases e2 : kd ts = "["
 ·rw [if_pos e2] at hR ⊢
  exact ⟨r, F', d, ts, n, rfl, R, hd, by omega, hR⟩
 rw [if_neg e2] at hR ⊢
 refine ⟨dx1, _, _, h1, h3, ?_⟩
 dsimp only
 by_cases e3 : kd ts = "{"
 ·rw [if_pos e3] at hR ⊢
  exact ⟨r, F', d, ts, n, rfl, R, hd, by omega, hR⟩
 rw [if_neg e3] at hR ⊢
 refine ⟨dx1, _, _, h1, h3, ?_⟩
 dsimp only
 cases hv : aZ be (Sum.inr (kd ts)) with
 | none =>
   rw [hv] at hR
   exact bU ⟨dx1, _, _, h1, h2, hR⟩
 | some v =>
   obtain ⟨nk, rfl, hne⟩ := vI _ _ hv
   rw [hv] at hR
   have hR : Res K A r F' H d ts.length (got [.leaf ((nk : Int).toNat) (c8 (next ts)) (next ts).place] (ts.drop 1)) Q E := hR
   rw [Int.toNat_natCast] at hR
   have hk0 := R.ne0 rfl hne
   have hdr := R.dr hk0
   refine c9 (R.call (by decide) ⟨r, F', d, ts, rfl, R, hk0, fun v4 H4 G4 R4 _ => ?_⟩)
   obtain ⟨a6, dx6, fs6, ea, h6, h7, h8, dl6, h9, h10⟩ := hv1'.place R4.sub
   cases ea
   refine ⟨dx6, _, _, h6, h8, ?_⟩
   dsimp only
   refine ⟨_, hv, dx6, _, _, h6, h7, dx6, _, _, h6, h9, qe (kk := nk) (pp := (next ts).place) G4 R4 h10 fun F2 H2 v2 G2 _ R2 ht2 => hR.out G2 R2 (by omega) ht2⟩
abbrev hX : Stmt := top 114
theorem ka : ai ["reader", "parts"] ["reader"] (ad hX) := by walk_at "sc"
theorem pW (T : Txt P w K mg A) (F : Fd K mg "read_post" hX) (qy : Fn P w K mg base "read_atom" k ["reader"] (spG K A (j + 1) (gW .atom) 1)) (aK : Md P w K mg base A.rdr "seen" k ["self"] (kU A)) (js : Fn P w K mg base "read_behind_atom" k ["reader"] (spG K A (j + 1) io 0)) (aO : Fn P w K mg base "node_of_several" k ["kind", "parts"] (eQ A))  : Fn P w K mg base "read_post" (k + 1) ["reader"] (spG K A (j + 1) (gW .post) 2) := by
 refine Fn.of1 F ka (fun _ _ _ _ _ _ _ => rfl) fun g cdv Ar outer s H a Q E hr h => ⟨_, (a9 (aq (i := 1) (aJ (a8 (q_c qy hr ae (a8 (q_v 0) aa)) aa)) ka.nd) (a9 (bp (bv PassesOwn.leaving (b7 yA (q_f T.cl_tok T.na_tok_kind (gj T.cl_rdr aK hr ae (q_v 0))) (fM (a8 aw (a8 aw (a8 aw aa))))) (ac (aA (cD (q_v 1) (q_c js hr ae (a8 (q_v 0) aa))))))) (ac (aj (q_c aO hr ae (a8 (q_g T.g_POST) (a8 (q_v 1) aa))))))), ?_⟩
 obtain ⟨r, F', d, ts, n, rfl, R, hd, hn, hR⟩ := h
 obtain ⟨n, rfl⟩ : ∃ m, n = m + 1 := ⟨n - 1, by omega⟩
 have hR : Res K A r F' H d ts.length (one (parse n .atom d ts) fun x u => andThen (parse n .postTail d u) fun l q => got [Vablda.alone 44 (x :: l)] q) Q E := hR
 walk_at "rd"
 refine ⟨r, F', d, ts, n, rfl, R, hd, by omega, aF hR (Grow.refl _ _ _) fun t ts1 F1 H1 v G1 _ R1 hlt ht hR1 => ⟨(by rw [sizeLine_eq]; decide), fun p hp => ?_⟩⟩
 obtain ⟨G2, R2, L2⟩ := aL (vs := [v]) (xs := [t]) G1 R1 hp (.cons ht .nil)
 refine bo (fun σ H' => ∃ F'' ts' xs, σ = [some (.ref r), some (.ref p)] /\ Grow r F' H F'' H' /\ Rs A r F'' H' d ts' /\ ts'.length < ts.length /\ Ll A H F'' H' p xs /\ xs ≠ [] /\ Res K A r F' H d ts.length (got [Vablda.alone 44 xs] ts') Q E)
  (Exists.intro (fun m σ H' => ∃ F'' ts' xs n', σ = [some (.ref r), some (.ref p)] /\ m = ts'.length /\ Grow r F' H F'' H' /\ Rs A r F'' H' d ts' /\ ts'.length < ts.length /\ xs.length + ts'.length <= ts.length + 1 /\ Ll A H F'' H' p xs /\ xs ≠ [] /\ 20 * ts'.length + 1 <= n' /\
   Res K A r F' H d ts.length (andThen (parse n' .postTail d ts') fun l q => got [Vablda.alone 44 (xs ++ l)] q) Q E) ⟨⟨_, F1, ts1, [t], n, rfl, rfl, G2, R2, hlt, by simp; omega, L2, by simp, by omega, hR1⟩, ?_⟩) ?_
 ·rintro m σ H' ⟨F2, ts2, xs, n', rfl, rfl, G3, R3, hl3, hlen, L3, hne, hb, hR3⟩
  obtain ⟨n', rfl⟩ : ∃ m, n' = m + 1 := ⟨n' - 1, by omega⟩
  have hR3 : Res K A r F' H d ts.length (andThen (Vablda.postTailOf (parse n') d ts2) fun l q => got [Vablda.alone 44 (xs ++ l)] q) Q E := hR3
  rw [wN, aM R3.gd, aM R3.gd, aM R3.gd] at hR3
  simp only [decide_eq_true_eq] at hR3
  walk_at "rd"
  refine R3.call (by decide) ⟨r, F2, d, ts2, rfl, R3, fun v3 hv3 => ?_⟩
  obtain ⟨a3, dx3, fs3, rfl, h1, _, h3, _⟩ := hv3.place R3.sub
  refine ⟨dx3, _, _, h1, h3, (by rw [sizeLine_eq]; decide), fun q hq => ?_⟩
  obtain ⟨g4, R4, f4⟩ := pB (vs := [V.str "(", V.str "[", V.str "."]) R3 hq
  have L4 := L3.grow g4 R3 R4
  have G4 := G3.trans g4 R4.fr
  refine ⟨_, .inl (.inl af), rfl, rfl, ?_⟩
  have ei : inV (.str (b9 (next ts2))) [V.str "(", V.str "[", V.str "."] = decide (kd ts2 = "(" ∨ kd ts2 = "[" ∨ kd ts2 = ".") := by
   have := sM (kd ts2) ["(", "[", "."]
   simp only [List.mem_cons, List.mem_nil_iff, or_false] at this
   exact this
  rw [ei]
  by_cases e : kd ts2 = "(" ∨ kd ts2 = "[" ∨ kd ts2 = "."
  ·rw [if_pos e, br] at hR3
   rw [decide_eq_true e]
   obtain ⟨vs4, hvs4, htr4⟩ := L4.at_
   refine bU ⟨_, fun _ _ h => h, ⟨_, hvs4⟩, r, F2, d, ts2, n', rfl, R4, hd, by omega, aF hR3 G4 fun t5 ts5 F5 H5 v5 G5 g5 R5 hlt5 ht5 hR5 => ?_⟩
   have L5 := L4.grow g5 R4 R5
   obtain ⟨vs5, hvs5, htr5⟩ := L5.at_
   refine ⟨vs5, hvs5, ?_, ?_⟩
   ·rw [htr5.len, sizeLine_eq]; have := R.le; omega
   ·obtain ⟨G6, R6, L6⟩ := cf G5 R5 L5 (htr5.snoc ht5)
    refine ⟨_, hlt5, F5, ts5, xs ++ [t5], n', rfl, rfl, G6, R6, by omega, by simp; omega, L6, by simp, by omega, ?_⟩
    rw [eT] at hR5
    simp only [List.append_assoc]
    exact hR5
  ·rw [if_neg e] at hR3
   rw [decide_eq_false e]
   refine c9 ⟨F2, ts2, xs, by trivial, G4, R4, hl3, L4, hne, ?_⟩
   have hR3 : Res K A r F' H d ts.length (got [Vablda.alone 44 (xs ++ [])] ts2) Q E := hR3
   rw [List.append_nil] at hR3
   exact hR3
 ·rintro σ H' ⟨F2, ts2, xs, rfl, G3, R3, hl3, L3, hne, hR3⟩
  walk_at "rd"
  exact iV G3 R3 L3 hne fun F4 H4 v4 G4 R4 ht4 => hR3.out G4 R4 hl3 ht4
end
end L2
namespace L2
open PySem PySem.Spec PyProof.Rows
open Vablda (Got next got andThen one parse)
theorem A7 (s : String) (u : List Tk) (x : Tr) (h : Tr -> List Tk -> Got) : (one (Vablda.sign s u fun z => got [x] z) h) = Vablda.sign s u fun z => h x z := by
 unfold Vablda.sign
 by_cases e : Vablda.isSign s u = true
 ·rw [if_pos e, if_pos e]; rfl
 ·rw [if_neg e, if_neg e]; rfl
theorem A8 (s : String) (d : Nat) (u : List Tk) (f : List Tk -> Got) (h : Tr -> List Tk -> Got) : one (Vablda.opened s d u f) h = Vablda.opened s d u fun z => one (f z) h := by
 unfold Vablda.opened
 by_cases e : Vablda.isSign s u = false
 ·rw [if_pos e, if_pos e]; rfl
 ·rw [if_neg e, if_neg e]
  by_cases e2 : Vablda.BRACKETS <= d
  ·rw [if_pos e2, if_pos e2]; rfl
  ·rw [if_neg e2, if_neg e2]
theorem AR (g : Got) (f : List Tr -> List Tk -> Got) (h : Tr -> List Tk -> Got) : one (andThen g f) h = andThen g fun l q => one (f l q) h := by cases g <;> rfl
theorem jz {s : String} {ts : List Tk} {f : List Tk -> Got} (h : Vablda.isWord s ts = true) : Vablda.word s ts f = f (ts.drop 1) := by unfold Vablda.word; rw [if_pos h]
def sA (n d : Nat) (ts : List Tk) : Got := Vablda.paramOf (parse n) d ts
def iu (n d : Nat) (ts : List Tk) : Got := Vablda.opened "(" d ts fun q => andThen (if Vablda.isSign ")" q = true then got [] q else parse n .params (d + 1) q) fun ps u => Vablda.sign ")" u fun v => got [.node 13 ps (next ts).place] v
def om (n d : Nat) (ts : List Tk) : Got := Vablda.word "load" ts fun u => if (next u).kind = 4 then andThen (parse n .names d (u.drop 1)) fun l r => Vablda.sign ";" r fun q => got [.node 11 (Vablda.leafOf 2 u :: l) (next ts).place] q else Vablda.wrong u
section
variable {P : Program} {w : World} {K : Frag} {mg : Str -> Option Value} {base : Heap} {A : Ad} {k k0 j : Nat}
abbrev fW : Stmt := top 135
theorem eI : ai ["reader", "name", "parts"] ["reader"] (ad fW) := by walk_at "sc"
theorem nH (T : Txt P w K mg A) (F : Fd K mg "read_param" fW) (aN : Fn P w K mg base "read_given_name" k ["reader"] (spG K A j eA 0)) (ag : Md P w K mg base A.rdr "sees" k ["self", "kind"] (bQ A)) (ak : Md P w K mg base A.rdr "step" k ["self"] (d4 A)) (aD : Fn P w K mg base "read_expr" k ["reader"] (spG K A j (gW .expr) 10)) (ay : Fn P w K mg base "node" k ["kind", "place", "parts"] (aX A))  : Fn P w K mg base "read_param" (k + 1) ["reader"] (spG K A j sA 0) := by
 refine Fn.of1 F eI (fun _ _ _ _ _ _ _ => rfl) fun g cdv Ar outer s H a Q E hr h => ⟨_, (a9 (aq (i := 1) (q_c aN hr ae (a8 (q_v 0) aa)) eI.nd) (a9 (aq (i := 2) (aJ (a8 (q_v 1) aa)) eI.nd) (a9 (aE (c6 (q_m T.cl_rdr ag hr ae (q_v 0) (a8 aw aa))) (a9 (aA (gj T.cl_rdr ak hr ae (q_v 0))) (ac (aA (cD (q_v 2) (q_c aD hr ae (a8 (q_v 0) aa)))))) am) (ac (aj (q_c ay hr ae (a8 (q_g T.g_PARAM) (a8 (q_f T.cl_tree T.na_tree_place (q_v 1)) (a8 (q_v 2) aa))))))))), ?_⟩
 obtain ⟨r, F', d, ts, n, rfl, R, hd, hn, hR⟩ := h
 have hR : Res K A r F' H d ts.length (Vablda.paramOf (parse n) d ts) Q E := hR
 unfold Vablda.paramOf at hR
 walk_at "rd"
 refine ⟨r, F', d, ts, n, rfl, R, hd, by omega, dY hR (Grow.refl _ _ _) R fun F1 H1 v1 G1 _ R1 hl1 ht1 hR1 => ⟨(by rw [sizeLine_eq]; decide), fun q hq => ?_⟩⟩
 obtain ⟨G2, R2, L2⟩ := aL (vs := [v1]) (xs := [Vablda.leafOf 3 ts]) G1 R1 hq (.cons ht1 .nil)
 obtain ⟨a3, dx3, dl3, pl3, rfl, h3⟩ := ht1.kp
 rw [aM R2.gd] at hR1
 refine R2.call (by decide) ⟨r, F1, d, ts.drop 1, _, rfl, rfl, R2, ?_⟩
 by_cases e : kd (ts.drop 1) = "="
 ·rw [decide_eq_true e] at hR1 ⊢
  rw [if_pos rfl] at hR1
  have hk0 := R2.ne0 e (by decide)
  have hdr := R2.dr hk0
  refine bU (R2.call (by decide) ⟨r, F1, d, ts.drop 1, rfl, R2, hk0, fun v6 H6 G6 R6 _ => ?_⟩)
  have L6 := L2.grow G6 R2 R6
  obtain ⟨vs6, hvs6, htr6⟩ := L6.at_
  refine ⟨⟨_, hvs6⟩, r, F1, d, _, n, rfl, R6, hd, by omega, aF hR1 (G2.trans G6 R6.fr) fun t7 ts7 F7 H7 v7 G7 g7 R7 hl7 ht7 hR7 => ?_⟩
  have L7 := L6.grow g7 R6 R7
  obtain ⟨vs7, hvs7, htr7⟩ := L7.at_
  refine ⟨vs7, hvs7, by rw [htr7.len, sizeLine_eq]; (show 1 < 16777216); decide, ?_⟩
  obtain ⟨G8, R8, L8⟩ := cf G7 R7 L7 (htr7.snoc ht7)
  refine ⟨dx3, _, _, R8.sub _ _ (g7.up _ _ h3), rfl, ?_⟩
  exact aU (kk := 14) (pp := (next ts).place) G8 R8 L8 fun F9 H9 v9 G9 R9 ht9 _ _ => hR7.out G9 R9 (by omega) ht9
 ·rw [decide_eq_false e] at hR1 ⊢
  rw [if_neg (by decide)] at hR1
  refine c9 ⟨dx3, _, _, R2.sub _ _ h3, rfl, ?_⟩
  exact aU (kk := 14) (pp := (next ts).place) G2 R2 L2 fun F9 H9 v9 G9 R9 ht9 _ _ => hR1.out G9 R9 (by omega) ht9
abbrev el : Stmt := top 134
theorem dD : ai ["reader", "place", "params"] ["reader"] (ad el) := by walk_at "sc"
theorem nu (T : Txt P w K mg A) (F : Fd K mg "read_params" el) (aB : Md P w K mg base A.rdr "enter" k ["self", "bracket"] (dh K A)) (dG : Fn P w K mg base "read_row" k ["reader", "closing", "read_part"] (qS P w K mg base A k0)) (au : Md P w K mg base A.rdr "leave" k ["self", "bracket"] (ci K A)) (ay : Fn P w K mg base "node" k ["kind", "place", "parts"] (aX A)) (pU : Fn P w K mg base "read_param" k0 ["reader"] (spG K A j sA 0)) : Fn P w K mg base "read_params" (k + 1) ["reader"] (spG K A (j + 1) iu 0) := by
 refine Fn.of1 F dD (fun _ _ _ _ _ _ _ => rfl) fun g cdv Ar outer s H a Q E hr h => ⟨_, (a9 (aq (i := 1) (q_f T.cl_tok T.na_tok_place (q_m T.cl_rdr aB hr ae (q_v 0) (a8 aw aa))) dD.nd) (a9 (aq (i := 2) (q_c dG hr ae (a8 (q_v 0) (a8 aw (a8 (oQ pU) aa)))) dD.nd) (a9 (aA (q_m T.cl_rdr au hr ae (q_v 0) (a8 aw aa))) (ac (aj (q_c ay hr ae (a8 (q_g T.g_PARAMS) (a8 (q_v 1) (a8 (q_v 2) aa))))))))), ?_⟩
 obtain ⟨r, F', d, ts, n, rfl, R, hd, hn, hR⟩ := h
 have hR : Res K A r F' H d ts.length (iu n d ts) Q E := hR
 unfold iu at hR
 walk_at "rd"
 refine R.call (by decide) (dF hR (Grow.refl _ _ _) R (by decide) hd.1 fun v1 H1 G1 _ R1 hl1 hd1 hv1 hR1 => ?_)
 rw [aM R1.gd] at hR1
 obtain ⟨a1, dx1, fs1, rfl, h1, h2, _⟩ := hv1.place R1.sub
 refine ⟨dx1, _, _, h1, h2, fun v hv => ⟨r, F', d + 1, ts.drop 1, n, ")", j, sA, fun m u => parse m .params (d + 1) u, 0, rfl, rfl, hv, R1, ⟨hd1, by omega⟩, by omega, fun _ _ => rfl, eW hR1 G1 fun l2 ts2 F2 H2 p2 G2 _ R2 hl2 _ L2 hR2 => ?_⟩⟩
 refine R2.call (by decide) (cX hR2 G2 R2 (by decide) fun H3 G3 g3 R3 hl3 hR3 => ?_)
 exact aU (kk := 13) (pp := (next ts).place) G3 R3 (L2.grow g3 R2 R3) fun F6 H6 v6 G6 R6 ht6 _ _ => hR3.out G6 R6 (by omega) ht6
abbrev gD : Stmt := top 131
theorem cr : ai ["reader", "place", "token", "quoted", "names"] ["reader"] (ad gD) := by walk_at "sc"
theorem pD (T : Txt P w K mg A) (F : Fd K mg "read_load" gD) (ah : Md P w K mg base A.rdr "take" k ["self", "kind"] (bM K A)) (fS : Fn P w K mg base "leaf" k ["kind", "place", "data"] (mW A)) (bb : Fn P w K mg base "read_behind_first" k ["reader", "first", "read_part"] (gI P w K mg base A k0)) (ay : Fn P w K mg base "node" k ["kind", "place", "parts"] (aX A)) (aN : Fn P w K mg base "read_given_name" k ["reader"] (spG K A j eA 0)) (iT : Fn P w K mg base "read_given_name" k0 ["reader"] (spG K A j eA 0)) : Fn P w K mg base "read_load" (k + 1) ["reader"] (spG K A j om 0) := by
 refine Fn.of1 F cr (fun _ _ _ _ _ _ _ => rfl) fun g cdv Ar outer s H a Q E hr h => ⟨_, (a9 (aq (i := 1) (q_f T.cl_tok T.na_tok_place (q_m T.cl_rdr ah hr ae (q_v 0) (a8 aw aa))) cr.nd) (a9 (aq (i := 2) (q_m T.cl_rdr ah hr ae (q_v 0) (a8 aw aa)) cr.nd) (a9 (aq (i := 3) (q_c fS hr ae (a8 (q_g T.g_QUOTED) (a8 (q_f T.cl_tok T.na_tok_place (q_v 2)) (a8 (q_f T.cl_tok T.na_tok_data (q_v 2)) aa)))) cr.nd) (a9 (aq (i := 4) (q_c bb hr ae (a8 (q_v 0) (a8 (q_c aN hr ae (a8 (q_v 0) aa)) (a8 (oQ iT) aa)))) cr.nd) (a9 (aA (q_m T.cl_rdr ah hr ae (q_v 0) (a8 aw aa))) (ac (aj (q_c ay hr ae (a8 (q_g T.g_LOAD) (a8 (q_v 1) (a8 (cq zh (aJ (a8 (q_v 3) aa)) (q_v 4)) aa))))))))))), ?_⟩
 obtain ⟨r, F', d, ts, n, rfl, R, hd, hn, hR⟩ := h
 have hR : Res K A r F' H d ts.length (om n d ts) Q E := hR
 unfold om at hR
 walk_at "rd"
 refine R.call (by decide) (ej hR (Grow.refl _ _ _) R (by decide) fun v1 H1 G1 _ R1 hl1 hv1 hR1 => ?_)
 obtain ⟨a1, dx1, fs1, rfl, h1, h2, _⟩ := hv1.place R1.sub
 refine ⟨dx1, _, _, h1, h2, R1.call (by decide) ⟨r, F', d, ts.drop 1, _, rfl, rfl, by decide, R1, ?_⟩⟩
 by_cases e : kd (ts.drop 1) = "text"
 ·have k4 := (pc R1.gd).mpr e
  rw [if_pos k4] at hR1
  rw [if_pos e]
  intro v2 H2 g2 R2 hv2
  have hdr := R1.dr (R1.ne0 e (by decide))
  have hpos2 := R2.gd.pos
  obtain ⟨n, rfl⟩ : ∃ m, n = m + 1 := ⟨n - 1, by omega⟩
  rw [show parse (n + 1) .names d ((ts.drop 1).drop 1) = jn (Vablda.isSign ",") (eA n d ((ts.drop 1).drop 1)) (parse n .names d) from rfl, uP, br] at hR1
  obtain ⟨a2, dx2, fs2, rfl, h3, h4, _, dl2, h5, h6⟩ := hv2.place R2.sub
  refine ⟨dx2, _, _, h3, h4, dx2, _, _, h3, h5, qe (kk := 2) (pp := (next (ts.drop 1)).place) (G1.trans g2 R2.fr) R2 h6 fun F3 H3 v3 G3 g3 R3 ht3 => ?_⟩
  refine ⟨r, F3, d, _, n, rfl, R3, hd, by omega, aF hR1 G3 fun t4 ts4 F4 H4 v4 G4 g4 R4 hl4 ht4 hR4 => ?_⟩
  refine fun vf hvf => ⟨r, F4, d, ts4, n, t4, j, eA, fun m u => parse m .names d u, 0, rfl, ht4, hvf, R4, hd, by omega, fun _ _ => rfl, eW hR4 G4 fun l5 ts5 F5 H5 p5 G5 g5 R5 hl5 hlen5 L5 hR5 => ?_⟩
  refine R5.call (by decide) (eg hR5 G5 R5 (by decide) fun v6 H6 G6 g6 R6 hl6 _ hR6 => ⟨(by rw [sizeLine_eq]; decide), fun q hq => ?_⟩)
  have L6 := L5.grow g6 R5 R6
  have ht3' : TreeAt A.tree F5 v3 (Vablda.leafOf 2 (ts.drop 1)) := by
   have hd4 : c8 (next (ts.drop 1)) = (next (ts.drop 1)).text := by unfold c8; rw [k4]; rfl
   rw [hd4] at ht3
   exact (ht3.mono g4.up).mono g5.up
  obtain ⟨G7, R7, L7⟩ := aL (vs := [v3]) (xs := [Vablda.leafOf 2 (ts.drop 1)]) G6 R6 hq (.cons ht3' .nil)
  obtain ⟨vs6, hvs6, htr6⟩ := L6.at_
  have hvs7 : upd H6 q (.lst [v3]) p5 = some (.lst vs6) := by rw [al (az hvs6 hq)]; exact hvs6
  refine ⟨q, p5, [v3], vs6, rfl, rfl, af, hvs7, ?_, fun s hs => ?_⟩
  ·rw [htr6.len, sizeLine_eq, List.length_singleton]; have := R.le; omega
  ·obtain ⟨G8, R8, L8⟩ := aL (vs := [v3] ++ vs6) (xs := [Vablda.leafOf 2 (ts.drop 1)] ++ l5) G7 R7 hs (.cons ht3' htr6)
   exact aU (kk := 11) (pp := (next ts).place) G8 R8 L8 fun F9 H9 v9 G9 R9 ht9 _ _ => hR6.out G9 R9 (by omega) ht9
 ·rw [if_neg (fun z => e ((pc R1.gd).mp z))] at hR1
  rw [if_neg e]; exact hR1
end
end L2
namespace L2
open PySem PySem.Spec PyProof.Rows
open Vablda (Got next got andThen one parse)
def uz (n d : Nat) (ts : List Tk) : Got := Vablda.word "def" ts fun u => Vablda.name 3 u fun x r => one (iu n d r) fun pt v => one (parse n .block d v) fun b w => got [.node 12 [x, pt, b] (next ts).place] w
def gIf (n d : Nat) (ts : List Tk) : Got := Vablda.word "if" ts fun u => one (parse n .expr d u) fun e r => one (parse n .block d r) fun b q =>
 andThen (if Vablda.isWord "else" q = true then one (parse n .block d (q.drop 1)) fun c u => got [e, b, c] u else got [e, b] q) fun l w => got [.node 16 l (next ts).place] w
def ug (n d : Nat) (ts : List Tk) : Got := Vablda.word "for" ts fun u0 => Vablda.name 3 u0 fun x r => Vablda.word "in" r fun q => one (parse n .expr d q) fun e u => one (parse n .block d u) fun b v => got [.node 17 [x, e, b] (next ts).place] v
def tZ (n d : Nat) (ts : List Tk) : Got := Vablda.word "return" ts fun u => andThen (if Vablda.isSign ";" u = true then got [] u else one (parse n .expr d u) fun e r => got [e] r) fun l r => Vablda.sign ";" r fun q => got [.node 18 l (next ts).place] q
def uv (n d : Nat) (ts : List Tk) : Got := Vablda.name 3 ts fun x u => Vablda.sign "=" u fun u2 => one (parse n .expr d u2) fun e r => Vablda.sign ";" r fun q => got [.node 19 [x, e] (Vablda.placeOf x)] q
def r8 (n d : Nat) (ts : List Tk) : Got := one (parse n .expr d ts) fun e r => Vablda.sign ";" r fun q => got [.node 20 [e] (Vablda.placeOf e)] q
theorem wM {ts : List Tk} (n d : Nat) : Vablda.stmtOf (parse n) d ts = if Vablda.isWord "load" ts = true then om n d ts else if Vablda.isWord "def" ts = true then uz n d ts else if Vablda.isWord "if" ts = true then gIf n d ts else if Vablda.isWord "for" ts = true then ug n d ts
  else if Vablda.isWord "return" ts = true then tZ n d ts else if Vablda.isName ts = true /\ Vablda.isSign "=" (ts.drop 1) = true then uv n d ts else r8 n d ts := by
 unfold Vablda.stmtOf
 by_cases h1 : Vablda.isWord "load" ts = true
 ·rw [if_pos h1, if_pos h1]
  unfold om Vablda.loadStmt
  rw [jz h1, List.drop_drop]
 rw [if_neg h1, if_neg h1]
 by_cases h2 : Vablda.isWord "def" ts = true
 ·rw [if_pos h2, if_pos h2]
  unfold uz Vablda.defStmt
  rw [jz h2]
  congr 1
  funext x r
  unfold iu
  rw [A8]
  congr 1
  funext z
  rw [AR]
  congr 1
  funext l q
  rw [A7]
 rw [if_neg h2, if_neg h2]
 by_cases h3 : Vablda.isWord "if" ts = true
 ·rw [if_pos h3, if_pos h3]
  unfold gIf Vablda.ifStmt
  rw [jz h3]
  congr 1
  funext e r
  congr 1
  funext b q
  by_cases h : Vablda.isWord "else" q = true
  ·rw [if_pos h, if_pos h, br]; rfl
  ·rw [if_neg h, if_neg h]; rfl
 rw [if_neg h3, if_neg h3]
 by_cases h4 : Vablda.isWord "for" ts = true
 ·rw [if_pos h4, if_pos h4]
  unfold ug Vablda.forStmt
  rw [jz h4]
 rw [if_neg h4, if_neg h4]
 by_cases h5 : Vablda.isWord "return" ts = true
 ·rw [if_pos h5, if_pos h5]
  unfold tZ Vablda.returnStmt
  rw [jz h5]
  by_cases h : Vablda.isSign ";" (ts.drop 1) = true
  ·rw [if_pos h, if_pos h]
   show _ = Vablda.sign ";" (ts.drop 1) _
   rw [jG h, List.drop_drop]
  ·rw [if_neg h, if_neg h, br]; rfl
 rw [if_neg h5, if_neg h5]
 by_cases h6 : Vablda.isName ts = true /\ Vablda.isSign "=" (ts.drop 1) = true
 ·rw [if_pos h6, if_pos h6]
  unfold uv
  rw [sQ h6.1, jG h6.2, List.drop_drop]; rfl
 ·rw [if_neg h6, if_neg h6]; rfl
theorem lY {ts : List Tk} (hw : ∀ s, Vablda.isWord s ts = false) (hn : Vablda.isName ts = false) (h3 : (next ts).kind ≠ 3) (h4 : (next ts).kind ≠ 4) (a : Vablda.isSign "-" ts = false) (b : Vablda.isSign "(" ts = false) (c : Vablda.isSign "[" ts = false) (e : Vablda.isSign "{" ts = false) (m d : Nat) : parse (m + 11) .stmt d ts = Vablda.wrong ts := by
 have atom : parse (m + 1) .atom d ts = Vablda.wrong ts := by
  show Vablda.atomOf (parse m) d ts = _
  unfold Vablda.atomOf
  simp only [hw, hn, h3, h4, b, c, e, if_false, Bool.false_eq_true]
 have post : parse (m + 2) .post d ts = Vablda.wrong ts := by
  have e : parse (m + 2) .post d ts = one (parse (m + 1) .atom d ts) fun x r => andThen (parse (m + 1) .postTail d r) fun l q => got [Vablda.alone 44 (x :: l)] q := rfl
  rw [e, atom]; rfl
 have signed : parse (m + 3) .signed d ts = Vablda.wrong ts := by
  show (if Vablda.isSign "-" ts = true then _ else parse (m + 2) .post d ts) = _
  rw [a, if_neg (by decide), post]
 have prod : parse (m + 4) .prod d ts = Vablda.wrong ts := by
  have e : parse (m + 4) .prod d ts = one (parse (m + 3) .signed d ts) fun x r => andThen (parse (m + 3) .prodTail d r) fun l q => got [Vablda.alone 40 (x :: l)] q := rfl
  rw [e, signed]; rfl
 have sum : parse (m + 5) .sum d ts = Vablda.wrong ts := by
  have e : parse (m + 5) .sum d ts = one (parse (m + 4) .prod d ts) fun x r => andThen (parse (m + 4) .sumTail d r) fun l q => got [Vablda.alone 38 (x :: l)] q := rfl
  rw [e, prod]; rfl
 have comp : parse (m + 6) .comp d ts = Vablda.wrong ts := by
  have e : parse (m + 6) .comp d ts = Vablda.compOf (parse (m + 5)) d ts := rfl
  rw [e]; unfold Vablda.compOf; rw [sum]; rfl
 have not_ : parse (m + 7) .not_ d ts = Vablda.wrong ts := by
  show (if Vablda.isWord "not" ts = true then _ else parse (m + 6) .comp d ts) = _
  rw [hw, if_neg (by decide), comp]
 have ands : parse (m + 8) .ands d ts = Vablda.wrong ts := by
  have e : parse (m + 8) .ands d ts = Vablda.joined "and" (parse (m + 7) .not_ d ts) (parse (m + 7) .ands d) := rfl
  rw [e, not_]; rfl
 have ors : parse (m + 9) .ors d ts = Vablda.wrong ts := by
  have e : parse (m + 9) .ors d ts = Vablda.joined "or" (andThen (parse (m + 8) .ands d ts) fun l r => got [Vablda.alone 31 l] r) (parse (m + 8) .ors d) := rfl
  rw [e, ands]; rfl
 have expr : parse (m + 10) .expr d ts = Vablda.wrong ts := by
  have e : parse (m + 10) .expr d ts = andThen (parse (m + 9) .ors d ts) fun l r => got [Vablda.alone 30 l] r := rfl
  rw [e, ors]; rfl
 show Vablda.stmtOf (parse (m + 10)) d ts = _
 unfold Vablda.stmtOf
 simp only [hw, hn, if_false, Bool.false_eq_true, false_and]
 rw [expr]; rfl
theorem uc {ts : List Tk} (h : (next ts).kind = 0) (m d : Nat) : parse (m + 11) .stmt d ts = Vablda.wrong ts := by
 have hs : ∀ s, Vablda.isSign s ts = false := fun s => by unfold Vablda.isSign; rw [h]; rfl
 exact lY (fun s => by unfold Vablda.isWord; rw [h]; rfl) (by unfold Vablda.isName; rw [h]; rfl) (by rw [h]; decide) (by rw [h]; decide) (hs _) (hs _) (hs _) (hs _) m d
theorem rc {ts : List Tk} (h : Vablda.isSign "}" ts = true) (m d : Nat) : parse (m + 11) .stmt d ts = Vablda.wrong ts := by
 have h : ((next ts).kind == 5 && (next ts).text == Vablda.str "}") = true := h
 rw [Bool.and_eq_true] at h
 have h5 := beq_iff_eq.mp h.1
 have ht : (next ts).text = Vablda.str "}" := by simpa using h.2
 have hs : ∀ s, (Vablda.str "}" == Vablda.str s) = false -> Vablda.isSign s ts = false := fun s e => by unfold Vablda.isSign; rw [ht, e, Bool.and_false]
 exact lY (fun s => by unfold Vablda.isWord; rw [h5]; rfl) (by unfold Vablda.isName; rw [h5]; rfl) (by rw [h5]; decide) (by rw [h5]; decide) (hs _ (by decide)) (hs _ (by decide)) (hs _ (by decide)) (hs _ (by decide)) m d
section
variable {P : Program} {w : World} {K : Frag} {mg : Str -> Option Value} {base : Heap} {A : Ad} {k k0 j : Nat}
abbrev jc : Stmt := top 133
theorem ee : ai ["reader", "place", "name", "params"] ["reader"] (ad jc) := by walk_at "sc"
theorem rM (T : Txt P w K mg A) (F : Fd K mg "read_def" jc) (ah : Md P w K mg base A.rdr "take" k ["self", "kind"] (bM K A)) (aN : Fn P w K mg base "read_given_name" k ["reader"] (spG K A j eA 0)) (nE : Fn P w K mg base "read_params" k ["reader"] (spG K A j iu 0)) (bZ : Fn P w K mg base "read_block" k ["reader"] (spG K A j (gW .block) 13)) (ay : Fn P w K mg base "node" k ["kind", "place", "parts"] (aX A))  : Fn P w K mg base "read_def" (k + 1) ["reader"] (spG K A j uz 0) := by
 refine Fn.of1 F ee (fun _ _ _ _ _ _ _ => rfl) fun g cdv Ar outer s H a Q E hr h => ⟨_, (a9 (aq (i := 1) (q_f T.cl_tok T.na_tok_place (q_m T.cl_rdr ah hr ae (q_v 0) (a8 aw aa))) ee.nd) (a9 (aq (i := 2) (q_c aN hr ae (a8 (q_v 0) aa)) ee.nd) (a9 (aq (i := 3) (q_c nE hr ae (a8 (q_v 0) aa)) ee.nd) (ac (aj (q_c ay hr ae (a8 (q_g T.g_DEF) (a8 (q_v 1) (a8 (aJ (a8 (q_v 2) (a8 (q_v 3) (a8 (q_c bZ hr ae (a8 (q_v 0) aa)) aa)))) aa))))))))), ?_⟩
 obtain ⟨r, F', d, ts, n, rfl, R, hd, hn, hR⟩ := h
 have hR : Res K A r F' H d ts.length (uz n d ts) Q E := hR
 unfold uz at hR
 walk_at "rd"
 refine R.call (by decide) (ej hR (Grow.refl _ _ _) R (by decide) fun v1 H1 G1 _ R1 hl1 hv1 hR1 => ?_)
 obtain ⟨a1, dx1, fs1, rfl, h1, h2, _⟩ := hv1.place R1.sub
 refine ⟨dx1, _, _, h1, h2, r, F', d, ts.drop 1, n, rfl, R1, hd, by omega, dY hR1 G1 R1 fun F2 H2 v2 G2 g2 R2 hl2 ht2 hR2 => ?_⟩
 refine ⟨r, F2, d, _, n, rfl, R2, hd, by omega, aF hR2 G2 fun t3 ts3 F3 H3 v3 G3 g3 R3 hl3 ht3 hR3 => ?_⟩
 refine ⟨r, F3, d, ts3, n, rfl, R3, hd, by omega, aF hR3 G3 fun t4 ts4 F4 H4 v4 G4 g4 R4 hl4 ht4 hR4 => ⟨(by rw [sizeLine_eq]; decide), fun p hp => ?_⟩⟩
 obtain ⟨G5, R5, L5⟩ := aL (vs := [v2, v3, v4]) (xs := [_, t3, t4]) G4 R4 hp (.cons ((ht2.mono g3.up).mono g4.up) (.cons (ht3.mono g4.up) (.cons ht4 .nil)))
 exact aU (kk := 12) (pp := (next ts).place) G5 R5 L5 fun F6 H6 v6 G6 R6 ht6 _ _ => hR4.out G6 R6 (by omega) ht6
abbrev kr : Stmt := top 137
theorem fj : ai ["reader", "place", "asked", "parts"] ["reader"] (ad kr) := by walk_at "sc"
theorem sJ (T : Txt P w K mg A) (F : Fd K mg "read_if" kr) (ah : Md P w K mg base A.rdr "take" k ["self", "kind"] (bM K A)) (aD : Fn P w K mg base "read_expr" k ["reader"] (spG K A j (gW .expr) 10)) (bZ : Fn P w K mg base "read_block" k ["reader"] (spG K A j (gW .block) 13)) (ag : Md P w K mg base A.rdr "sees" k ["self", "kind"] (bQ A)) (ak : Md P w K mg base A.rdr "step" k ["self"] (d4 A)) (ay : Fn P w K mg base "node" k ["kind", "place", "parts"] (aX A))  : Fn P w K mg base "read_if" (k + 1) ["reader"] (spG K A j gIf 0) := by
 refine Fn.of1 F fj (fun _ _ _ _ _ _ _ => rfl) fun g cdv Ar outer s H a Q E hr h => ⟨_, (a9 (aq (i := 1) (q_f T.cl_tok T.na_tok_place (q_m T.cl_rdr ah hr ae (q_v 0) (a8 aw aa))) fj.nd) (a9 (aq (i := 2) (q_c aD hr ae (a8 (q_v 0) aa)) fj.nd) (a9 (aq (i := 3) (aJ (a8 (q_v 2) (a8 (q_c bZ hr ae (a8 (q_v 0) aa)) aa))) fj.nd) (a9 (aE (c6 (q_m T.cl_rdr ag hr ae (q_v 0) (a8 aw aa))) (a9 (aA (gj T.cl_rdr ak hr ae (q_v 0))) (ac (aA (cD (q_v 3) (q_c bZ hr ae (a8 (q_v 0) aa)))))) am) (ac (aj (q_c ay hr ae (a8 (q_g T.g_IF) (a8 (q_v 1) (a8 (q_v 3) aa)))))))))), ?_⟩
 obtain ⟨r, F', d, ts, n, rfl, R, hd, hn, hR⟩ := h
 have hR : Res K A r F' H d ts.length (gIf n d ts) Q E := hR
 unfold gIf at hR
 walk_at "rd"
 refine R.call (by decide) (ej hR (Grow.refl _ _ _) R (by decide) fun v1 H1 G1 _ R1 hl1 hv1 hR1 => ?_)
 obtain ⟨a1, dx1, fs1, rfl, h1, h2, _⟩ := hv1.place R1.sub
 refine ⟨dx1, _, _, h1, h2, r, F', d, ts.drop 1, n, rfl, R1, hd, by omega, aF hR1 G1 fun t2 ts2 F2 H2 v2 G2 g2 R2 hl2 ht2 hR2 => ?_⟩
 refine ⟨r, F2, d, _, n, rfl, R2, hd, by omega, aF hR2 G2 fun t3 ts3 F3 H3 v3 G3 g3 R3 hl3 ht3 hR3 => ⟨(by rw [sizeLine_eq]; decide), fun p hp => ?_⟩⟩
 obtain ⟨G4, R4, L4⟩ := aL (vs := [v2, v3]) (xs := [t2, t3]) G3 R3 hp (.cons (ht2.mono g3.up) (.cons ht3 .nil))
 rw [bh R4.gd] at hR3
 refine R4.call (by decide) ⟨r, F3, d, ts3, _, rfl, rfl, R4, ?_⟩
 by_cases e : kd ts3 = "else"
 ·rw [decide_eq_true e] at hR3 ⊢
  rw [if_pos rfl, br] at hR3
  have hk0 := R4.ne0 e (by decide)
  have hdr := R4.dr hk0
  refine bU (R4.call (by decide) ⟨r, F3, d, ts3, rfl, R4, hk0, fun v6 H6 G6 R6 _ => ?_⟩)
  have L6 := L4.grow G6 R4 R6
  obtain ⟨vs6, hvs6, htr6⟩ := L6.at_
  refine ⟨⟨_, hvs6⟩, r, F3, d, _, n, rfl, R6, hd, by omega, aF hR3 (G4.trans G6 R6.fr) fun t7 ts7 F7 H7 v7 G7 g7 R7 hl7 ht7 hR7 => ?_⟩
  have L7 := L6.grow g7 R6 R7
  obtain ⟨vs7, hvs7, htr7⟩ := L7.at_
  refine ⟨vs7, hvs7, by rw [htr7.len, sizeLine_eq]; (show 2 < 16777216); decide, ?_⟩
  obtain ⟨G8, R8, L8⟩ := cf G7 R7 L7 (htr7.snoc ht7)
  exact aU (kk := 16) (pp := (next ts).place) G8 R8 L8 fun F9 H9 v9 G9 R9 ht9 _ _ => Res.out (ts := ts7) (t := .node 16 [t2, t3, t7] (next ts).place) hR7 G9 R9 (by omega) ht9
 ·rw [decide_eq_false e] at hR3 ⊢
  rw [if_neg (by decide)] at hR3
  refine c9 ?_
  exact aU (kk := 16) (pp := (next ts).place) G4 R4 L4 fun F9 H9 v9 G9 R9 ht9 _ _ => Res.out (ts := ts3) (t := .node 16 [t2, t3] (next ts).place) hR3 G9 R9 (by omega) ht9
abbrev iN : Stmt := top 138
theorem eh : ai ["reader", "place", "name", "walked"] ["reader"] (ad iN) := by walk_at "sc"
theorem rl (T : Txt P w K mg A) (F : Fd K mg "read_for" iN) (ah : Md P w K mg base A.rdr "take" k ["self", "kind"] (bM K A)) (aN : Fn P w K mg base "read_given_name" k ["reader"] (spG K A j eA 0)) (aD : Fn P w K mg base "read_expr" k ["reader"] (spG K A j (gW .expr) 10)) (bZ : Fn P w K mg base "read_block" k ["reader"] (spG K A j (gW .block) 13)) (ay : Fn P w K mg base "node" k ["kind", "place", "parts"] (aX A))  : Fn P w K mg base "read_for" (k + 1) ["reader"] (spG K A j ug 0) := by
 refine Fn.of1 F eh (fun _ _ _ _ _ _ _ => rfl) fun g cdv Ar outer s H a Q E hr h => ⟨_, (a9 (aq (i := 1) (q_f T.cl_tok T.na_tok_place (q_m T.cl_rdr ah hr ae (q_v 0) (a8 aw aa))) eh.nd) (a9 (aq (i := 2) (q_c aN hr ae (a8 (q_v 0) aa)) eh.nd) (a9 (aA (q_m T.cl_rdr ah hr ae (q_v 0) (a8 aw aa))) (a9 (aq (i := 3) (q_c aD hr ae (a8 (q_v 0) aa)) eh.nd) (ac (aj (q_c ay hr ae (a8 (q_g T.g_FOR) (a8 (q_v 1) (a8 (aJ (a8 (q_v 2) (a8 (q_v 3) (a8 (q_c bZ hr ae (a8 (q_v 0) aa)) aa)))) aa)))))))))), ?_⟩
 obtain ⟨r, F', d, ts, n, rfl, R, hd, hn, hR⟩ := h
 have hR : Res K A r F' H d ts.length (ug n d ts) Q E := hR
 unfold ug at hR
 walk_at "rd"
 refine R.call (by decide) (ej hR (Grow.refl _ _ _) R (by decide) fun v1 H1 G1 _ R1 hl1 hv1 hR1 => ?_)
 obtain ⟨a1, dx1, fs1, rfl, h1, h2, _⟩ := hv1.place R1.sub
 refine ⟨dx1, _, _, h1, h2, r, F', d, ts.drop 1, n, rfl, R1, hd, by omega, dY hR1 G1 R1 fun F2 H2 v2 G2 g2 R2 hl2 ht2 hR2 => ?_⟩
 refine R2.call (by decide) (ej hR2 G2 R2 (by decide) fun v3 H3 G3 g3 R3 hl3 _ hR3 => ?_)
 refine ⟨r, F2, d, _, n, rfl, R3, hd, by omega, aF hR3 G3 fun t4 ts4 F4 H4 v4 G4 g4 R4 hl4 ht4 hR4 => ?_⟩
 refine ⟨r, F4, d, ts4, n, rfl, R4, hd, by omega, aF hR4 G4 fun t5 ts5 F5 H5 v5 G5 g5 R5 hl5 ht5 hR5 => ⟨(by rw [sizeLine_eq]; decide), fun p hp => ?_⟩⟩
 obtain ⟨G6, R6, L6⟩ := aL (vs := [v2, v4, v5]) (xs := [_, t4, t5]) G5 R5 hp (.cons ((ht2.mono g4.up).mono g5.up) (.cons (ht4.mono g5.up) (.cons ht5 .nil)))
 exact aU (kk := 17) (pp := (next ts).place) G6 R6 L6 fun F7 H7 v7 G7 R7 ht7 _ _ => hR5.out G7 R7 (by omega) ht7
abbrev eO : Stmt := top 139
theorem dI : ai ["reader", "place", "parts"] ["reader"] (ad eO) := by walk_at "sc"
theorem mN (T : Txt P w K mg A) (F : Fd K mg "read_return" eO) (ah : Md P w K mg base A.rdr "take" k ["self", "kind"] (bM K A)) (ag : Md P w K mg base A.rdr "sees" k ["self", "kind"] (bQ A)) (aD : Fn P w K mg base "read_expr" k ["reader"] (spG K A j (gW .expr) 10)) (ay : Fn P w K mg base "node" k ["kind", "place", "parts"] (aX A))  : Fn P w K mg base "read_return" (k + 1) ["reader"] (spG K A j tZ 0) := by
 refine Fn.of1 F dI (fun _ _ _ _ _ _ _ => rfl) fun g cdv Ar outer s H a Q E hr h => ⟨_, (a9 (aq (i := 1) (q_f T.cl_tok T.na_tok_place (q_m T.cl_rdr ah hr ae (q_v 0) (a8 aw aa))) dI.nd) (a9 (aq (i := 2) (aJ aa) dI.nd) (a9 (aE (fL (c6 (q_m T.cl_rdr ag hr ae (q_v 0) (a8 aw aa)))) (ac (aA (cD (q_v 2) (q_c aD hr ae (a8 (q_v 0) aa))))) am) (a9 (aA (q_m T.cl_rdr ah hr ae (q_v 0) (a8 aw aa))) (ac (aj (q_c ay hr ae (a8 (q_g T.g_RETURN) (a8 (q_v 1) (a8 (q_v 2) aa)))))))))), ?_⟩
 obtain ⟨r, F', d, ts, n, rfl, R, hd, hn, hR⟩ := h
 have hR : Res K A r F' H d ts.length (tZ n d ts) Q E := hR
 unfold tZ at hR
 walk_at "rd"
 refine R.call (by decide) (ej hR (Grow.refl _ _ _) R (by decide) fun v1 H1 G1 _ R1 hl1 hv1 hR1 => ?_)
 obtain ⟨a1, dx1, fs1, rfl, h1, h2, _⟩ := hv1.place R1.sub
 refine ⟨dx1, _, _, h1, h2, by decide, fun p hp => ?_⟩
 obtain ⟨G2, R2, L2⟩ := aL (vs := []) (xs := []) G1 R1 hp .nil
 rw [aM R2.gd] at hR1
 have fin : ∀ F6 H6 l ts6, Grow r F' H F6 H6 -> Rs A r F6 H6 d ts6 -> ts6.length <= ts.length -> Ll A H F6 H6 p l -> Res K A r F' H d ts.length (Vablda.sign ";" ts6 fun z => got [.node 18 l (next ts).place] z) Q E ->
   ∃ dx fs, H6 r = some (.ins A.rdr dx fs) /\ fs.lookup ("take" : Str) = none /\ bM K A [.ref r, .str ";"] H6 (fun _ H1 => aX A [.int 18, .int (next ts).place, .ref p] H1 Q E) E := fun F6 H6 l ts6 G6 R6 hl6 L6 hR6 =>
  R6.call (by decide) (eg hR6 G6 R6 (by decide) fun v7 H7 G7 g7 R7 hl7 _ hR7 => aU (kk := 18) (pp := (next ts).place) G7 R7 (L6.grow g7 R6 R7) fun F8 H8 v8 G8 R8 ht8 _ _ => hR7.out G8 R8 (by omega) ht8)
 refine R2.call (by decide) ⟨r, F', d, ts.drop 1, _, rfl, rfl, R2, ?_⟩
 by_cases e : kd (ts.drop 1) = ";"
 ·rw [decide_eq_true e] at hR1 ⊢
  rw [if_pos rfl] at hR1
  exact lc (fin _ _ _ _ G2 R2 (by omega) L2 hR1)
 ·rw [decide_eq_false e] at hR1 ⊢
  rw [if_neg (by decide), br] at hR1
  obtain ⟨vs2, hvs2, htr2⟩ := L2.at_
  refine iA ⟨⟨_, hvs2⟩, r, F', d, ts.drop 1, n, rfl, R2, hd, by omega, aF hR1 G2 fun t3 ts3 F3 H3 v3 G3 g3 R3 hl3 ht3 hR3 => ?_⟩
  have L3 := L2.grow g3 R2 R3
  obtain ⟨vs3, hvs3, htr3⟩ := L3.at_
  refine ⟨vs3, hvs3, by rw [htr3.len, sizeLine_eq]; (show 0 < 16777216); decide, ?_⟩
  obtain ⟨G4, R4, L4⟩ := cf G3 R3 L3 (htr3.snoc ht3)
  exact fin _ _ _ _ G4 R4 (by omega) L4 hR3
abbrev eL : Stmt := top 140
theorem dw : ai ["reader", "name", "worth"] ["reader"] (ad eL) := by walk_at "sc"
theorem mX (T : Txt P w K mg A) (F : Fd K mg "read_giving" eL) (aN : Fn P w K mg base "read_given_name" k ["reader"] (spG K A j eA 0)) (ah : Md P w K mg base A.rdr "take" k ["self", "kind"] (bM K A)) (aD : Fn P w K mg base "read_expr" k ["reader"] (spG K A j (gW .expr) 10)) (ay : Fn P w K mg base "node" k ["kind", "place", "parts"] (aX A))  : Fn P w K mg base "read_giving" (k + 1) ["reader"] (spG K A j uv 0) := by
 refine Fn.of1 F dw (fun _ _ _ _ _ _ _ => rfl) fun g cdv Ar outer s H a Q E hr h => ⟨_, (a9 (aq (i := 1) (q_c aN hr ae (a8 (q_v 0) aa)) dw.nd) (a9 (aA (q_m T.cl_rdr ah hr ae (q_v 0) (a8 aw aa))) (a9 (aq (i := 2) (q_c aD hr ae (a8 (q_v 0) aa)) dw.nd) (a9 (aA (q_m T.cl_rdr ah hr ae (q_v 0) (a8 aw aa))) (ac (aj (q_c ay hr ae (a8 (q_g T.g_GIVING) (a8 (q_f T.cl_tree T.na_tree_place (q_v 1)) (a8 (aJ (a8 (q_v 1) (a8 (q_v 2) aa))) aa)))))))))), ?_⟩
 obtain ⟨r, F', d, ts, n, rfl, R, hd, hn, hR⟩ := h
 have hR : Res K A r F' H d ts.length (uv n d ts) Q E := hR
 unfold uv at hR
 walk_at "rd"
 refine ⟨r, F', d, ts, n, rfl, R, hd, by omega, dY hR (Grow.refl _ _ _) R fun F1 H1 v1 G1 _ R1 hl1 ht1 hR1 => R1.call (by decide) (eg hR1 G1 R1 (by decide) fun v2 H2 G2 g2 R2 hl2 _ hR2 => ?_)⟩
 refine ⟨r, F1, d, _, n, rfl, R2, hd, by omega, aF hR2 G2 fun t4 ts4 F4 H4 v4 G4 g4 R4 hl4 ht4 hR4 => R4.call (by decide) (eg hR4 G4 R4 (by decide) fun v5 H5 G5 g5 R5 hl5 _ hR5 => ?_)⟩
 have ht1' := ht1.mono g4.up
 obtain ⟨a3, dx3, dl3, pl3, rfl, h3⟩ := ht1'.kp
 refine ⟨dx3, _, _, R5.sub _ _ h3, rfl, (by rw [sizeLine_eq]; decide), fun p hp => ?_⟩
 obtain ⟨G6, R6, L6⟩ := aL (vs := [.ref a3, v4]) (xs := [_, t4]) G5 R5 hp (.cons ht1' (.cons ht4 .nil))
 exact aU (kk := 19) (pp := Vablda.placeOf (Vablda.leafOf 3 ts)) G6 R6 L6 fun F7 H7 v7 G7 R7 ht7 _ _ => hR5.out G7 R7 (by omega) ht7
abbrev gz : Stmt := top 141
theorem jM : ai ["reader", "part"] ["reader"] (ad gz) := by walk_at "sc"
theorem qp (T : Txt P w K mg A) (F : Fd K mg "read_bare" gz) (aD : Fn P w K mg base "read_expr" k ["reader"] (spG K A j (gW .expr) 10)) (ah : Md P w K mg base A.rdr "take" k ["self", "kind"] (bM K A)) (ay : Fn P w K mg base "node" k ["kind", "place", "parts"] (aX A))  : Fn P w K mg base "read_bare" (k + 1) ["reader"] (spG K A j r8 10) := by
 refine Fn.of1 F jM (fun _ _ _ _ _ _ _ => rfl) fun g cdv Ar outer s H a Q E hr h => ⟨_, (a9 (aq (i := 1) (q_c aD hr ae (a8 (q_v 0) aa)) jM.nd) (a9 (aA (q_m T.cl_rdr ah hr ae (q_v 0) (a8 aw aa))) (ac (aj (q_c ay hr ae (a8 (q_g T.g_BARE) (a8 (q_f T.cl_tree T.na_tree_place (q_v 1)) (a8 (aJ (a8 (q_v 1) aa)) aa)))))))), ?_⟩
 obtain ⟨r, F', d, ts, n, rfl, R, hd, hn, hR⟩ := h
 have hR : Res K A r F' H d ts.length (r8 n d ts) Q E := hR
 unfold r8 at hR
 walk_at "rd"
 refine ⟨r, F', d, ts, n, rfl, R, hd, by omega, aF hR (Grow.refl _ _ _) fun t4 ts4 F4 H4 v4 G4 g4 R4 hl4 ht4 hR4 => R4.call (by decide) (eg hR4 G4 R4 (by decide) fun v5 H5 G5 g5 R5 hl5 _ hR5 => ?_)⟩
 obtain ⟨a3, dx3, dl3, pl3, rfl, h3⟩ := ht4.kp
 refine ⟨dx3, _, _, R5.sub _ _ h3, rfl, (by rw [sizeLine_eq]; decide), fun p hp => ?_⟩
 obtain ⟨G6, R6, L6⟩ := aL (vs := [.ref a3]) (xs := [t4]) G5 R5 hp (.cons ht4 .nil)
 exact aU (kk := 20) (pp := Vablda.placeOf t4) G6 R6 L6 fun F7 H7 v7 G7 R7 ht7 _ _ => hR5.out G7 R7 (by omega) ht7
abbrev i5 : Stmt := top 130
theorem pY : ai ["reader"] ["reader"] (ad i5) := by walk_at "sc"
theorem qa (T : Txt P w K mg A) (F : Fd K mg "read_stmt" i5) (ag : Md P w K mg base A.rdr "sees" k ["self", "kind"] (bQ A)) (aW : Md P w K mg base A.rdr "sees_giving" k ["self"] (mh A)) (rK : Fn P w K mg base "read_load" k ["reader"] (spG K A j om 0)) (sE : Fn P w K mg base "read_def" k ["reader"] (spG K A j uz 0)) (uw : Fn P w K mg base "read_if" k ["reader"] (spG K A j gIf 0)) (sI : Fn P w K mg base "read_for" k ["reader"] (spG K A j ug 0)) (nV : Fn P w K mg base "read_return" k ["reader"] (spG K A j tZ 0)) (nA : Fn P w K mg base "read_giving" k ["reader"] (spG K A j uv 0)) (qB : Fn P w K mg base "read_bare" k ["reader"] (spG K A j r8 10))  : Fn P w K mg base "read_stmt" (k + 1) ["reader"] (spG K A j (gW .stmt) 11) := by
 refine Fn.of1 F pY (fun _ _ _ _ _ _ _ => rfl) fun g cdv Ar outer s H a Q E hr h => ⟨_, (a9 (aE (c6 (q_m T.cl_rdr ag hr ae (q_v 0) (a8 aw aa))) (ac (aj (q_c rK hr ae (a8 (q_v 0) aa)))) am) (a9 (aE (c6 (q_m T.cl_rdr ag hr ae (q_v 0) (a8 aw aa))) (ac (aj (q_c sE hr ae (a8 (q_v 0) aa)))) am) (a9 (aE (c6 (q_m T.cl_rdr ag hr ae (q_v 0) (a8 aw aa))) (ac (aj (q_c uw hr ae (a8 (q_v 0) aa)))) am) (a9 (aE (c6 (q_m T.cl_rdr ag hr ae (q_v 0) (a8 aw aa))) (ac (aj (q_c sI hr ae (a8 (q_v 0) aa)))) am) (a9 (aE (c6 (q_m T.cl_rdr ag hr ae (q_v 0) (a8 aw aa))) (ac (aj (q_c nV hr ae (a8 (q_v 0) aa)))) am) (a9 (aE (c6 (gj T.cl_rdr aW hr ae (q_v 0))) (ac (aj (q_c nA hr ae (a8 (q_v 0) aa)))) am) (ac (aj (q_c qB hr ae (a8 (q_v 0) aa)))))))))), ?_⟩
 obtain ⟨r, F', d, ts, n, rfl, R, hd, hn, hR⟩ := h
 obtain ⟨n, rfl⟩ : ∃ m, n = m + 1 := ⟨n - 1, by omega⟩
 have hR : Res K A r F' H d ts.length (Vablda.stmtOf (parse n) d ts) Q E := hR
 rw [wM, bh R.gd, bh R.gd, bh R.gd, bh R.gd, bh R.gd] at hR
 walk_at "rd"
 refine R.call (by decide) ⟨r, F', d, ts, _, rfl, rfl, R, ?_⟩
 by_cases e1 : kd ts = "load"
 ·rw [decide_eq_true e1] at hR ⊢
  rw [if_pos rfl] at hR
  exact bU ⟨r, F', d, ts, n, rfl, R, hd, by omega, hR⟩
 rw [decide_eq_false e1] at hR ⊢
 rw [if_neg (by decide)] at hR
 refine c9 (R.call (by decide) ⟨r, F', d, ts, _, rfl, rfl, R, ?_⟩)
 by_cases e2 : kd ts = "def"
 ·rw [decide_eq_true e2] at hR ⊢
  rw [if_pos rfl] at hR
  exact bU ⟨r, F', d, ts, n, rfl, R, hd, by omega, hR⟩
 rw [decide_eq_false e2] at hR ⊢
 rw [if_neg (by decide)] at hR
 refine c9 (R.call (by decide) ⟨r, F', d, ts, _, rfl, rfl, R, ?_⟩)
 by_cases e3 : kd ts = "if"
 ·rw [decide_eq_true e3] at hR ⊢
  rw [if_pos rfl] at hR
  exact bU ⟨r, F', d, ts, n, rfl, R, hd, by omega, hR⟩
 rw [decide_eq_false e3] at hR ⊢
 rw [if_neg (by decide)] at hR
 refine c9 (R.call (by decide) ⟨r, F', d, ts, _, rfl, rfl, R, ?_⟩)
 by_cases e4 : kd ts = "for"
 ·rw [decide_eq_true e4] at hR ⊢
  rw [if_pos rfl] at hR
  exact bU ⟨r, F', d, ts, n, rfl, R, hd, by omega, hR⟩
 rw [decide_eq_false e4] at hR ⊢
 rw [if_neg (by decide)] at hR
 refine c9 (R.call (by decide) ⟨r, F', d, ts, _, rfl, rfl, R, ?_⟩)
 by_cases e5 : kd ts = "return"
 ·rw [decide_eq_true e5] at hR ⊢
  rw [if_pos rfl] at hR
  exact bU ⟨r, F', d, ts, n, rfl, R, hd, by omega, hR⟩
 rw [decide_eq_false e5] at hR ⊢
 rw [if_neg (by decide)] at hR
 refine c9 (R.call (by decide) ⟨r, F', d, ts, rfl, R, ?_⟩)
 by_cases e : kd ts = "name" /\ kd (ts.drop 1) = "="
 ·rw [decide_eq_true e.1, decide_eq_true e.2]
  rw [if_pos (nZ R.gd e)] at hR
  exact bU ⟨r, F', d, ts, n, rfl, R, hd, by omega, hR⟩
 ·rw [if_neg (oq R.gd e)] at hR
  have e' : (decide (kd ts = "name") && decide (kd (ts.drop 1) = "=")) = false := by
   rw [<- Bool.decide_and]; exact decide_eq_false e
  rw [e']
  exact c9 ⟨r, F', d, ts, n, rfl, R, hd, by omega, hR⟩
end
end L2
namespace Vp
open Vablda
mutual
def dep : Tree -> Nat
 | .leaf _ _ _ => 1
 | .node _ l _ => 1 + depL l
def depL : List Tree -> Nat
 | [] => 0
 | t :: ts => max (dep t) (depL ts)
end
theorem depL_le {b : Nat} : ∀ {l : List Tree}, (∀ t ∈ l, dep t <= b) -> depL l <= b
 | [], _ => by simp [depL]
 | t :: ts, h => by
   rw [depL]
   exact Nat.max_le.mpr ⟨h t (List.mem_cons.mpr (.inl rfl)), depL_le fun u hu => h u (List.mem_cons.mpr (.inr hu))⟩
theorem dep_mem {t : Tree} : ∀ {l : List Tree}, t ∈ l -> dep t <= depL l
 | [], h => by simp at h
 | u :: ts, h => by
   rw [depL]
   rcases List.mem_cons.mp h with rfl | h
   ·exact Nat.le_max_left _ _
   ·exact Nat.le_trans (dep_mem h) (Nat.le_max_right _ _)
structure OkN (k : Nat) (l : List Tree) : Prop where
 k10 : 10 < k
 k13 : k = 13 -> ∀ t ∈ l, kindOf t = 14
 n13 : k ≠ 13 -> ∀ t ∈ l, kindOf t ≠ 14
 n65 : k ≠ 65 -> ∀ t ∈ l, kindOf t ≠ 45
 k50 : k = 50 -> ∀ t ∈ l, kindOf t = 51
 k14 : k = 14 -> l.length = 1 ∨ l.length = 2
 ne : k = 45 ∨ k = 51 ∨ k = 12 ∨ k = 19 -> l ≠ []
inductive Ok : Tree -> Prop
 | leaf {k : Nat} {b : Text} {p : Nat} : k < 8 -> Ok (.leaf k b p)
 | node {k : Nat} {l : List Tree} {p : Nat} : OkN k l -> (∀ t ∈ l, Ok t) -> Ok (.node k l p)
def kE (t : Tree) : Prop := kindOf t ≠ 14 /\ kindOf t ≠ 45
structure T (b : Nat) (t : Tree) : Prop where
 ok : Ok t
 ke : kE t
 de : dep t <= b
theorem T.mono {b c : Nat} {t : Tree} (h : T b t) (e : b <= c) : T c t := ⟨h.ok, h.ke, Nat.le_trans h.de e⟩
theorem mx {k : Nat} {x : Text} {p b : Nat} (h : k < 8) (hb : 1 <= b) : T b (.leaf k x p) := ⟨.leaf h, ⟨by show k ≠ 14; omega, by show k ≠ 45; omega⟩, by rw [dep]; exact hb⟩
theorem dk {k p b c : Nat} {l : List Tree} (hk : 10 < k /\ k ≠ 13 /\ k ≠ 14 /\ k ≠ 45 /\ k ≠ 50) (hne : l ≠ [] ∨ (k ≠ 51 /\ k ≠ 12 /\ k ≠ 19)) (h : ∀ t ∈ l, T b t) (hb : b + 1 <= c) : T c (.node k l p) := by
 refine ⟨.node ⟨hk.1, fun e => absurd e hk.2.1, fun _ t ht => (h t ht).ke.1, fun _ t ht => (h t ht).ke.2, fun e => absurd e hk.2.2.2.2, fun e => absurd e hk.2.2.1, fun e => ?_⟩ fun t ht => (h t ht).ok, ⟨hk.2.2.1, hk.2.2.2.1⟩, ?_⟩
 ·rcases hne with z | z
  ·exact z
  ·rcases e with e | e | e | e
   ·exact absurd e hk.2.2.2.1
   ·exact absurd e z.1
   ·exact absurd e z.2.1
   ·exact absurd e z.2.2
 ·rw [dep]
  have := depL_le (b := b) fun t ht => (h t ht).de
  omega
def P1 (r : Tree -> Prop) (l : List Tree) : Prop := ∃ t, l = [t] /\ r t
def Pa (r : Tree -> Prop) (l : List Tree) : Prop := ∀ t ∈ l, r t
def Sat (p : List Tree -> Prop) (g : Got) : Prop := ∀ l ts, g = .ok (l, ts) -> p l
section
variable {p q : List Tree -> Prop} {r : Tree -> Prop} {g : Got}
theorem Sat.got {l : List Tree} {ts : List Tok} (h : p l) : Sat p (got l ts) := fun l' ts' e => by cases e; exact h
theorem Sat.wrong {ts : List Tok} : Sat p (wrong ts) := fun l' ts' e => by cases e
theorem Sat.err {e : Fault} : Sat p (.error e) := fun l' ts' e => by cases e
theorem Sat.imp (h : Sat p g) (k : ∀ l, p l -> q l) : Sat q g := fun l ts e => k l (h l ts e)
theorem Sat.then {f : List Tree -> List Tok -> Got} (h : Sat p g) (k : ∀ l ts, p l -> Sat q (f l ts)) : Sat q (andThen g f) := by
 cases g with
 | error e => exact Sat.err
 | ok x => exact k x.1 x.2 (h x.1 x.2 rfl)
theorem Sat.one {f : Tree -> List Tok -> Got} (h : Sat (P1 r) g) (k : ∀ t ts, r t -> Sat q (f t ts)) : Sat q (one g f) := Sat.then h fun l ts ⟨t, e, ht⟩ => by rw [e]; exact k t ts ht
theorem Sat.ite {c : Prop} [Decidable c] {g' : Got} (h : Sat q g) (h' : Sat q g') : Sat q (if c then g else g') := by split <;> assumption
theorem Sat.sign {s : String} {ts : List Tok} {f : List Tok -> Got} (k : Sat q (f (ts.drop 1))) : Sat q (sign s ts f) := Sat.ite k Sat.wrong
theorem Sat.word {s : String} {ts : List Tok} {f : List Tok -> Got} (k : Sat q (f (ts.drop 1))) : Sat q (word s ts f) := Sat.ite k Sat.wrong
theorem Sat.name {n : Nat} {ts : List Tok} {f : Tree -> List Tok -> Got} (hn : n < 8) (k : ∀ t u, T 1 t -> Sat q (f t u)) : Sat q (name n ts f) := Sat.ite (k _ _ (mx hn (Nat.le_refl 1))) Sat.wrong
theorem Sat.opened {s : String} {d : Nat} {ts : List Tok} {f : List Tok -> Got} (k : d < 12 -> Sat q (f (ts.drop 1))) : Sat q (opened s d ts f) := by
 unfold Vablda.opened
 split
 ·exact Sat.wrong
 ·split
  ·exact Sat.err
  ·rename_i h; exact k (by have : ¬ 12 <= d := h; omega)
end
def D0 (w : Want) (d : Nat) : List Tree -> Prop := match w with
 | .stmts => Pa (T (12 * (12 - d) + 13))
 | .stmt => P1 (T (12 * (12 - d) + 13))
 | .block => P1 (T (12 * (12 - d) + 2))
 | .names => Pa (T 1)
 | .params => Pa fun t => Ok t /\ kindOf t = 14 /\ dep t <= 12 * (12 - d) + 13
 | .expr => P1 (T (12 * (12 - d) + 12))
 | .ors => fun l => l ≠ [] /\ Pa (T (12 * (12 - d) + 11)) l
 | .ands => fun l => l ≠ [] /\ Pa (T (12 * (12 - d) + 10)) l
 | .not_ => P1 (T (12 * (12 - d) + 10))
 | .comp => P1 (T (12 * (12 - d) + 9))
 | .sum => P1 (T (12 * (12 - d) + 8))
 | .sumTail => Pa (T (12 * (12 - d) + 7))
 | .prod => P1 (T (12 * (12 - d) + 6))
 | .prodTail => Pa (T (12 * (12 - d) + 5))
 | .signed => P1 (T (12 * (12 - d) + 4))
 | .post => P1 (T (12 * (12 - d) + 3))
 | .postTail => Pa (T (12 * (12 - d) + 2))
 | .atom => P1 (T (12 * (12 - d) + 2))
 | .args => Pa fun t => Ok t /\ kindOf t ≠ 14 /\ dep t <= 12 * (12 - d) + 13
 | .items => Pa (T (12 * (12 - d) + 12))
 | .fields => Pa fun t => Ok t /\ kindOf t = 51 /\ dep t <= 12 * (12 - d) + 13
theorem jK {k b c : Nat} {l : List Tree} (hk : k = 30 ∨ k = 31 ∨ k = 38 ∨ k = 40 ∨ k = 44) (hne : l ≠ []) (h : Pa (T b) l) (hb : b + 1 <= c) : T c (alone k l) := by
 unfold alone
 split
 ·exact (h _ (by simp)).mono (by omega)
 ·exact dk (by omega) (.inl hne) h hb
theorem aI {r : Tree -> Prop} {t : Tree} {l : List Tree} (h : r t) (hl : Pa r l) : Pa r (t :: l) := fun u hu => (List.mem_cons.mp hu).elim (fun e => e ▸ h) (hl u)
theorem eC {r : Tree -> Prop} : Pa r [] := fun u hu => by simp at hu
theorem aS {r : Tree -> Prop} {t : Tree} (h : r t) : Pa r [t] := aI h eC
theorem Sat.list {r : Tree -> Prop} {s : String} {g : Got} {more : List Tok -> Got} (h : Sat (P1 r) g) (hm : ∀ ts, Sat (Pa r) (more ts)) : Sat (Pa r) (parted s g more) :=
 Sat.one h fun t ts ht => Sat.ite (Sat.then (hm _) fun l u hl => Sat.got (aI ht hl)) (Sat.got (aS ht))
theorem sf : ∀ (n : Nat) (w : Want) (d : Nat) (ts : List Tok), Sat (D0 w d) (parse n w d ts) := by
 intro n
 induction n with
 | zero => intro w d ts; cases w <;> exact Sat.wrong
 | succ n ih =>
   have ex : ∀ d ts, Sat (P1 (T (12 * (12 - d) + 12))) (parse n .expr d ts) := fun d ts => ih .expr d ts
   have bl : ∀ d ts, Sat (P1 (T (12 * (12 - d) + 2))) (parse n .block d ts) := fun d ts => ih .block d ts
   intro w d ts
   cases w with
   | stmts =>
     refine Sat.ite (Sat.got eC) (Sat.one (ih .stmt d ts) fun t u ht => Sat.then (ih .stmts d u) fun l v hl => Sat.got (aI ht hl))
   | stmt =>
     show Sat (P1 (T (12 * (12 - d) + 13))) (stmtOf (parse n) d ts)
     unfold stmtOf
     refine Sat.ite ?_ (Sat.ite ?_ (Sat.ite ?_ (Sat.ite ?_ (Sat.ite ?_ (Sat.ite ?_ ?_)))))
     ·refine Sat.ite (Sat.then (ih .names d _) fun l u hl => Sat.sign (Sat.got ⟨_, rfl, dk (b := 1) (by decide) (.inl (by simp)) (aI (mx (by decide) (Nat.le_refl 1)) hl) (by omega)⟩)) Sat.wrong
     ·refine Sat.name (by decide) fun t u ht => Sat.opened fun hd => ?_
      have prm : Sat (Pa fun t => Ok t /\ kindOf t = 14 /\ dep t <= 12 * (12 - (d + 1)) + 13) (if isSign ")" (u.drop 1) = true then Vablda.got [] (u.drop 1) else parse n .params (d + 1) (u.drop 1)) := Sat.ite (Sat.got eC) (ih .params (d + 1) _)
      refine Sat.then prm fun l v hl => Sat.sign (Sat.one (bl d _) fun b z hb => Sat.got ⟨_, rfl, ?_⟩)
      have hp : T (12 * (12 - d) + 2) (.node 13 l (next u).place) := by
       refine ⟨.node ⟨by decide, fun _ t ht => (hl t ht).2.1, fun e => absurd rfl e, fun _ t ht => by rw [(hl t ht).2.1]; decide, fun e => absurd e (by decide), fun e => absurd e (by decide), fun e => absurd e (by decide)⟩ fun t ht => (hl t ht).1, ⟨by show 13 ≠ 14; decide, by show 13 ≠ 45; decide⟩, ?_⟩
       rw [dep]
       have := depL_le fun t ht => (hl t ht).2.2
       omega
      exact dk (b := 12 * (12 - d) + 2) (by decide) (.inl (by simp)) (aI (ht.mono (by omega)) (aI hp (aS hb))) (by omega)
     ·refine Sat.one (ex d _) fun e u he => Sat.one (bl d _) fun b v hb => Sat.ite (Sat.one (bl d _) fun c z hc => Sat.got ⟨_, rfl, dk (b := 12 * (12 - d) + 12) (by decide) (.inl (by simp)) (aI he (aI (hb.mono (by omega)) (aS (hc.mono (by omega))))) (by omega)⟩) (Sat.got ⟨_, rfl, dk (b := 12 * (12 - d) + 12) (by decide) (.inl (by simp)) (aI he (aS (hb.mono (by omega)))) (by omega)⟩)
     ·refine Sat.name (by decide) fun t u ht => Sat.word (Sat.one (ex d _) fun e v he => Sat.one (bl d _) fun b z hb => Sat.got ⟨_, rfl, dk (b := 12 * (12 - d) + 12) (by decide) (.inl (by simp)) (aI (ht.mono (by omega)) (aI he (aS (hb.mono (by omega))))) (by omega)⟩)
     ·refine Sat.ite (Sat.got ⟨_, rfl, dk (b := 0) (by decide) (.inr (by decide)) eC (by omega)⟩) (Sat.one (ex d _) fun e v he => Sat.sign (Sat.got ⟨_, rfl, dk (b := 12 * (12 - d) + 12) (by decide) (.inl (by simp)) (aS he) (by omega)⟩))
     ·refine Sat.one (ex d _) fun e v he => Sat.sign (Sat.got ⟨_, rfl, dk (b := 12 * (12 - d) + 12) (by decide) (.inl (by simp)) (aI (mx (by decide) (by omega)) (aS he)) (by omega)⟩)
     ·refine Sat.one (ex d _) fun e v he => Sat.sign (Sat.got ⟨_, rfl, dk (b := 12 * (12 - d) + 12) (by decide) (.inl (by simp)) (aS he) (by omega)⟩)
   | block =>
     show Sat (P1 (T (12 * (12 - d) + 2))) (blockOf (parse n) d ts)
     unfold blockOf
     refine Sat.opened fun hd => Sat.then (ih .stmts (d + 1) _) fun l u hl => Sat.sign (Sat.got ⟨_, rfl, dk (b := 12 * (12 - (d + 1)) + 13) (by decide) (.inr (by decide)) hl (by omega)⟩)
   | names => exact Sat.list (Sat.name (by decide) fun t u ht => Sat.got ⟨t, rfl, ht⟩) fun u => ih .names d u
   | params =>
     refine Sat.list (Sat.name (by decide) fun t u ht => Sat.ite (Sat.one (ex d _) fun e v he => Sat.got ⟨_, rfl, ?_⟩) (Sat.got ⟨_, rfl, ?_⟩)) fun u => ih .params d u
     ·refine ⟨.node ⟨by decide, fun e => absurd e (by decide), fun _ => aI ht.ke.1 (aS he.ke.1), fun _ => aI ht.ke.2 (aS he.ke.2), fun e => absurd e (by decide), fun _ => .inr rfl, fun e => absurd e (by decide)⟩ (aI ht.ok (aS he.ok)), rfl, ?_⟩
      show dep (.node 14 [t, e] _) <= _
      rw [dep]
      have := depL_le (b := 12 * (12 - d) + 12) (l := [t, e]) (aI (Nat.le_trans ht.de (by omega)) (aS he.de))
      omega
     ·refine ⟨.node ⟨by decide, fun e => absurd e (by decide), fun _ => aS ht.ke.1, fun _ => aS ht.ke.2, fun e => absurd e (by decide), fun _ => .inl rfl, fun e => absurd e (by decide)⟩ (aS ht.ok), rfl, ?_⟩
      show dep (.node 14 [t] _) <= _
      rw [dep]
      have := depL_le (b := 1) (l := [t]) (aS ht.de)
      omega
   | expr =>
     show Sat (P1 (T (12 * (12 - d) + 12))) (andThen (parse n .ors d ts) fun l r => Vablda.got [alone 30 l] r)
     exact Sat.then (ih .ors d ts) fun l u hl => Sat.got ⟨_, rfl, jK (by decide) hl.1 hl.2 (by omega)⟩
   | ors =>
     have a1 : Sat (P1 (T (12 * (12 - d) + 11))) (andThen (parse n .ands d ts) fun l r => Vablda.got [alone 31 l] r) := Sat.then (ih .ands d ts) fun l u hl => Sat.got ⟨_, rfl, jK (by decide) hl.1 hl.2 (by omega)⟩
     show Sat (fun l => l ≠ [] /\ Pa (T (12 * (12 - d) + 11)) l) (joined "or" (andThen (parse n .ands d ts) fun l r => Vablda.got [alone 31 l] r) (parse n .ors d))
     exact Sat.one a1 fun t u ht => Sat.ite (Sat.then (ih .ors d _) fun l v hl => Sat.got ⟨by simp, aI ht hl.2⟩) (Sat.got ⟨by simp, aS ht⟩)
   | ands =>
     show Sat (fun l => l ≠ [] /\ Pa (T (12 * (12 - d) + 10)) l) (joined "and" (parse n .not_ d ts) (parse n .ands d))
     exact Sat.one (ih .not_ d ts) fun t u ht => Sat.ite (Sat.then (ih .ands d _) fun l v hl => Sat.got ⟨by simp, aI ht hl.2⟩) (Sat.got ⟨by simp, aS ht⟩)
   | not_ => exact Sat.ite (Sat.one (ih .comp d _) fun t u ht => Sat.got ⟨_, rfl, dk (by decide) (.inl (by simp)) (aS ht) (by omega)⟩) (Sat.imp (ih .comp d ts) fun l ⟨t, e, ht⟩ => ⟨t, e, ht.mono (by omega)⟩)
   | comp =>
     show Sat (P1 (T (12 * (12 - d) + 9))) (compOf (parse n) d ts)
     unfold compOf
     refine Sat.one (ih .sum d ts) fun a u ha => ?_
     cases e : compSign u with
     | none => exact Sat.got ⟨a, rfl, ha.mono (by omega)⟩
     | some k =>
       have hk : k = 33 ∨ k = 34 ∨ k = 35 ∨ k = 36 ∨ k = 37 := by
        unfold compSign at e
        repeat' (split at e)
        all_goals (cases e <;> decide)
       exact Sat.one (ih .sum d _) fun b v hb => Sat.got ⟨_, rfl, dk (by omega) (.inl (by simp)) (aI ha (aS hb)) (by omega)⟩
   | sum =>
     show Sat (P1 (T (12 * (12 - d) + 8))) (one (parse n .prod d ts) fun x r => andThen (parse n .sumTail d r) fun l q => Vablda.got [alone 38 (x :: l)] q)
     exact Sat.one (ih .prod d ts) fun x u hx => Sat.then (ih .sumTail d u) fun l v hl => Sat.got ⟨_, rfl, jK (b := 12 * (12 - d) + 7) (by decide) (by simp) (aI (hx.mono (by omega)) hl) (by omega)⟩
   | sumTail =>
     show Sat (Pa (T (12 * (12 - d) + 7))) (tailOf sumSign (parse n .prod d) (parse n .sumTail d) ts)
     unfold tailOf
     cases e : sumSign ts with
     | none => exact Sat.got eC
     | some k =>
       have hk : k = 60 ∨ k = 61 := by
        unfold sumSign at e
        repeat' (split at e)
        all_goals (cases e <;> decide)
       exact Sat.one (ih .prod d _) fun x u hx => Sat.then (ih .sumTail d u) fun l v hl => Sat.got (aI (dk (by omega) (.inl (by simp)) (aS hx) (by omega)) hl)
   | prod =>
     show Sat (P1 (T (12 * (12 - d) + 6))) (one (parse n .signed d ts) fun x r => andThen (parse n .prodTail d r) fun l q => Vablda.got [alone 40 (x :: l)] q)
     exact Sat.one (ih .signed d ts) fun x u hx => Sat.then (ih .prodTail d u) fun l v hl => Sat.got ⟨_, rfl, jK (b := 12 * (12 - d) + 5) (by decide) (by simp) (aI (hx.mono (by omega)) hl) (by omega)⟩
   | prodTail =>
     show Sat (Pa (T (12 * (12 - d) + 5))) (tailOf prodSign (parse n .signed d) (parse n .prodTail d) ts)
     unfold tailOf
     cases e : prodSign ts with
     | none => exact Sat.got eC
     | some k =>
       have hk : k = 62 ∨ k = 63 ∨ k = 64 := by
        unfold prodSign at e
        repeat' (split at e)
        all_goals (cases e <;> decide)
       exact Sat.one (ih .signed d _) fun x u hx => Sat.then (ih .prodTail d u) fun l v hl => Sat.got (aI (dk (by omega) (.inl (by simp)) (aS hx) (by omega)) hl)
   | signed => exact Sat.ite (Sat.one (ih .post d _) fun t u ht => Sat.got ⟨_, rfl, dk (by decide) (.inl (by simp)) (aS ht) (by omega)⟩) (Sat.imp (ih .post d ts) fun l ⟨t, e, ht⟩ => ⟨t, e, ht.mono (by omega)⟩)
   | post =>
     show Sat (P1 (T (12 * (12 - d) + 3))) (one (parse n .atom d ts) fun x r => andThen (parse n .postTail d r) fun l q => Vablda.got [alone 44 (x :: l)] q)
     exact Sat.one (ih .atom d ts) fun x u hx => Sat.then (ih .postTail d u) fun l v hl => Sat.got ⟨_, rfl, jK (b := 12 * (12 - d) + 2) (by decide) (by simp) (aI hx hl) (by omega)⟩
   | postTail =>
     show Sat (Pa (T (12 * (12 - d) + 2))) (postTailOf (parse n) d ts)
     unfold postTailOf
     have mo : ∀ x r, T (12 * (12 - d) + 2) x -> Sat (Pa (T (12 * (12 - d) + 2))) (andThen (parse n .postTail d r) fun l q => Vablda.got (x :: l) q) := fun x r hx => Sat.then (ih .postTail d r) fun l u hl => Sat.got (aI hx hl)
     refine Sat.ite (Sat.opened fun hd => ?_) (Sat.ite (Sat.opened fun hd => Sat.one (ex (d + 1) _) fun e u he => Sat.sign (mo _ _ (dk (by decide) (.inl (by simp)) (aS he) (by omega)))) (Sat.ite (Sat.name (by decide) fun t u ht => mo _ _ (dk (by decide) (.inl (by simp)) (aS ht) (by omega))) (Sat.got eC)))
     have ar : Sat (Pa fun t => Ok t /\ kindOf t ≠ 14 /\ dep t <= 12 * (12 - (d + 1)) + 13) (if isSign ")" (ts.drop 1) = true then Vablda.got [] (ts.drop 1) else parse n .args (d + 1) (ts.drop 1)) := Sat.ite (Sat.got eC) (ih .args (d + 1) _)
     refine Sat.then ar fun l u hl => Sat.sign (mo _ _ ⟨.node ⟨by decide, fun e => absurd e (by decide), fun _ t ht => (hl t ht).2.1, fun e => absurd rfl e, fun e => absurd e (by decide), fun e => absurd e (by decide), fun e => absurd e (by decide)⟩ fun t ht => (hl t ht).1, ⟨by show 65 ≠ 14; decide, by show 65 ≠ 45; decide⟩, ?_⟩)
     rw [dep]
     have := depL_le fun t ht => (hl t ht).2.2
     omega
   | atom =>
     show Sat (P1 (T (12 * (12 - d) + 2))) (atomOf (parse n) d ts)
     unfold atomOf
     have lf : ∀ k x p u, k < 8 -> Sat (P1 (T (12 * (12 - d) + 2))) (Vablda.got [.leaf k x p] u) := fun k x p u hk => Sat.got ⟨_, rfl, mx hk (by omega)⟩
     refine Sat.ite (lf _ _ _ _ (by decide)) (Sat.ite (lf _ _ _ _ (by decide)) (Sat.ite (lf _ _ _ _ (by decide)) (Sat.ite (lf _ _ _ _ (by decide)) (Sat.ite (lf _ _ _ _ (by decide)) (Sat.ite (lf _ _ _ _ (by decide)) (Sat.ite ?_ (Sat.ite ?_ (Sat.ite ?_ Sat.wrong))))))))
     ·exact Sat.opened fun hd => Sat.one (ex (d + 1) _) fun e u he => Sat.sign (Sat.got ⟨e, rfl, he.mono (by omega)⟩)
     ·refine Sat.opened fun hd => ?_
      unfold listOf
      refine Sat.ite (Sat.got ⟨_, rfl, dk (b := 0) (by decide) (.inr (by decide)) eC (by omega)⟩) (Sat.one (ex (d + 1) _) fun e u he => Sat.ite ?_ (Sat.ite ?_ ?_))
      ·exact Sat.name (by decide) fun t v ht => Sat.word (Sat.one (ex (d + 1) _) fun s z hs => Sat.ite
        (Sat.one (ex (d + 1) _) fun c y hc => Sat.sign (Sat.got ⟨_, rfl, dk (by decide) (.inl (by simp)) (aI he (aI (ht.mono (by omega)) (aI hs (aS hc)))) (by omega)⟩))
        (Sat.sign (Sat.got ⟨_, rfl, dk (by decide) (.inl (by simp)) (aI he (aI (ht.mono (by omega)) (aS hs))) (by omega)⟩)))
      ·exact Sat.then (ih .items (d + 1) _) fun l v hl => Sat.sign (Sat.got ⟨_, rfl, dk (by decide) (.inl (by simp)) (aI he hl) (by omega)⟩)
      ·exact Sat.sign (Sat.got ⟨_, rfl, dk (by decide) (.inl (by simp)) (aS he) (by omega)⟩)
     ·refine Sat.opened fun hd => ?_
      have ar : Sat (Pa fun t => Ok t /\ kindOf t = 51 /\ dep t <= 12 * (12 - (d + 1)) + 13) (if isSign "}" (ts.drop 1) = true then Vablda.got [] (ts.drop 1) else parse n .fields (d + 1) (ts.drop 1)) := Sat.ite (Sat.got eC) (ih .fields (d + 1) _)
      refine Sat.then ar fun l u hl => Sat.sign (Sat.got ⟨_, rfl, ⟨.node ⟨by decide, fun e => absurd e (by decide), fun _ t ht => by rw [(hl t ht).2.1]; decide, fun _ t ht => by rw [(hl t ht).2.1]; decide, fun _ t ht => (hl t ht).2.1, fun e => absurd e (by decide), fun e => absurd e (by decide)⟩ fun t ht => (hl t ht).1, ⟨by show 50 ≠ 14; decide, by show 50 ≠ 45; decide⟩, ?_⟩⟩)
      rw [dep]
      have := depL_le fun t ht => (hl t ht).2.2
      omega
   | args =>
     refine Sat.list ?_ fun u => ih .args d u
     refine Sat.ite (Sat.one (ex d _) fun e u he => Sat.got ⟨_, rfl, ?_⟩) (Sat.imp (ex d ts) fun l ⟨t, e, ht⟩ => ⟨t, e, ht.ok, ht.ke.1, Nat.le_trans ht.de (by omega)⟩)
     have lt : T (12 * (12 - d) + 12) (leafOf 7 ts) := mx (by decide) (by omega)
     refine ⟨.node ⟨by decide, fun e => absurd e (by decide), fun _ => aI lt.ke.1 (aS he.ke.1), fun _ => aI lt.ke.2 (aS he.ke.2), fun e => absurd e (by decide), fun e => absurd e (by decide), fun _ => by simp⟩ (aI lt.ok (aS he.ok)), by show 45 ≠ 14; decide, ?_⟩
     show dep (.node 45 [leafOf 7 ts, e] _) <= _
     rw [dep]
     have := depL_le (b := 12 * (12 - d) + 12) (l := [leafOf 7 ts, e]) (aI lt.de (aS he.de))
     omega
   | items => exact Sat.list (ex d ts) fun u => ih .items d u
   | fields =>
     refine Sat.list (Sat.name (by decide) fun t u ht => Sat.sign (Sat.one (ex d _) fun e v he => Sat.got ⟨_, rfl, ?_⟩)) fun u => ih .fields d u
     have := dk (k := 51) (p := ((([t, e] : List Tree).head?.map placeOf).getD 0)) (b := 12 * (12 - d) + 12) (c := 12 * (12 - d) + 13) (l := [t, e]) (by decide) (.inl (by simp)) (aI (ht.mono (by omega)) (aS he)) (by omega)
     exact ⟨this.ok, rfl, this.de⟩
end Vp
namespace Vp
open Vablda
mutual
def sz : Tree -> Nat
 | .leaf _ b _ => 1 + b.length
 | .node _ l _ => 1 + szL l
def szL : List Tree -> Nat
 | [] => 0
 | t :: ts => sz t + szL ts
end
def cnt (l : List Tree) : Nat := (l.map fun t => (partsOf t).length).foldr (· + ·) 0
theorem cnt_cons (t : Tree) (l : List Tree) : cnt (t :: l) = (partsOf t).length + cnt l := rfl
mutual
def wt : Tree -> Nat
 | .leaf _ _ _ => 1
 | .node _ l _ => 1 + 2 * l.length + cnt l + wtL l
def wtL : List Tree -> Nat
 | [] => 0
 | t :: ts => wt t + wtL ts
end
mutual
theorem yj : ∀ t : Tree, wt t + 3 + (partsOf t).length <= 4 * sz t
 | .leaf _ _ _ => by simp [wt, sz, partsOf]; omega
 | .node k l p => by
   have := vo l
   simp only [wt, sz, partsOf]
   omega
theorem vo : ∀ l : List Tree, wtL l + 3 * l.length + cnt l <= 4 * szL l
 | [] => by simp [wtL, szL, cnt]
 | t :: ts => by
   have h1 := yj t
   have h2 := vo ts
   rw [wtL, szL, cnt_cons, List.length_cons]
   omega
end
theorem wt_parts (t : Tree) : wt t = 1 + 2 * (partsOf t).length + cnt (partsOf t) + wtL (partsOf t) := by
 cases t with
 | leaf k b p => simp [wt, partsOf, cnt, wtL]
 | node k l p => simp [wt, partsOf]
theorem wt_pos (t : Tree) : 1 <= wt t := by rw [wt_parts]; omega
def ml : List Tok -> Nat
 | [] => 0
 | t :: r => 1 + t.text.length + ml r
def Sa (p : List Tree -> List Tok -> Prop) (g : Got) : Prop := ∀ l ts, g = .ok (l, ts) -> p l ts
section
variable {p q : List Tree -> List Tok -> Prop} {r : Tree -> List Tok -> Prop} {g : Got}
theorem Sa.got {l : List Tree} {ts : List Tok} (h : p l ts) : Sa p (got l ts) := fun l' ts' e => by cases e; exact h
theorem Sa.wrong {ts : List Tok} : Sa p (wrong ts) := fun l' ts' e => by cases e
theorem Sa.err {e : Fault} : Sa p (.error e) := fun l' ts' e => by cases e
theorem Sa.then {f : List Tree -> List Tok -> Got} (h : Sa p g) (k : ∀ l ts, p l ts -> Sa q (f l ts)) : Sa q (andThen g f) := by
 cases g with
 | error e => exact Sa.err
 | ok x => exact k x.1 x.2 (h x.1 x.2 rfl)
def S1 (b : Nat) (l : List Tree) (ts : List Tok) : Prop := ∃ t, l = [t] /\ sz t + 4 * (ml ts) <= b
def SL (b : Nat) (l : List Tree) (ts : List Tok) : Prop := szL l + 4 * (ml ts) <= b
theorem Sa.one {b : Nat} {f : Tree -> List Tok -> Got} (h : Sa (S1 b) g) (k : ∀ t ts, sz t + 4 * (ml ts) <= b -> Sa q (f t ts)) : Sa q (one g f) := Sa.then h fun l ts ⟨t, e, ht⟩ => by rw [e]; exact k t ts ht
theorem Sa.ite {c : Prop} [Decidable c] {g' : Got} (h : c -> Sa q g) (h' : ¬ c -> Sa q g') : Sa q (if c then g else g') := by
 split
 ·exact h (by assumption)
 ·exact h' (by assumption)
theorem hJ {ts : List Tok} (h : (next ts).kind ≠ 0) : (ml (ts.drop 1)) + 1 + (next ts).text.length = (ml ts) := by
 cases ts with
 | nil => exact absurd rfl h
 | cons t r => show ml r + 1 + t.text.length = 1 + t.text.length + ml r; omega
theorem bY {s : String} {ts : List Tok} (h : isSign s ts = true) : (ml (ts.drop 1)) + 1 + (next ts).text.length = (ml ts) := hJ fun e => by unfold isSign at h; rw [e] at h; cases h
theorem bC {s : String} {ts : List Tok} (h : isWord s ts = true) : (ml (ts.drop 1)) + 1 + (next ts).text.length = (ml ts) := hJ fun e => by unfold isWord at h; rw [e] at h; cases h
theorem mD {ts : List Tok} (h : isName ts = true) : (ml (ts.drop 1)) + 1 + (next ts).text.length = (ml ts) := hJ fun e => by unfold isName at h; rw [e] at h; cases h
theorem Sa.sign {s : String} {ts : List Tok} {f : List Tok -> Got} (k : (ml (ts.drop 1)) + 1 + (next ts).text.length = (ml ts) -> Sa q (f (ts.drop 1))) : Sa q (sign s ts f) := Sa.ite (fun h => k (bY h)) fun _ => Sa.wrong
theorem Sa.word {s : String} {ts : List Tok} {f : List Tok -> Got} (k : (ml (ts.drop 1)) + 1 + (next ts).text.length = (ml ts) -> Sa q (f (ts.drop 1))) : Sa q (word s ts f) := Sa.ite (fun h => k (bC h)) fun _ => Sa.wrong
theorem Sa.name {n : Nat} {ts : List Tok} {f : Tree -> List Tok -> Got} (k : ∀ t, sz t = 1 + (next ts).text.length -> (ml (ts.drop 1)) + 1 + (next ts).text.length = (ml ts) -> Sa q (f t (ts.drop 1))) : Sa q (name n ts f) := Sa.ite (fun h => k _ (by rw [leafOf, sz]) (mD h)) fun _ => Sa.wrong
theorem Sa.opened {s : String} {d : Nat} {ts : List Tok} {f : List Tok -> Got} (k : (ml (ts.drop 1)) + 1 + (next ts).text.length = (ml ts) -> Sa q (f (ts.drop 1))) : Sa q (opened s d ts f) := by
 unfold Vablda.opened
 refine Sa.ite (fun _ => Sa.wrong) fun h => Sa.ite (fun _ => Sa.err) fun _ => k (bY (s := s) (by cases e : isSign s ts with | true => rfl | false => exact absurd e h))
end
def SzW (w : Want) (n : Nat) : List Tree -> List Tok -> Prop := match w with
 | .ors => fun l ts => (∃ t, l = [t] /\ sz t + 4 * (ml ts) <= 4 * n) ∨ (l ≠ [] /\ szL l + 1 + 4 * (ml ts) <= 4 * n)
 | .ands => fun l ts => (∃ t, l = [t] /\ sz t + 4 * (ml ts) <= 4 * n) ∨ (l ≠ [] /\ szL l + 1 + 4 * (ml ts) <= 4 * n)
 | .stmts => SL (4 * n)
 | .names => SL (4 * n)
 | .params => SL (4 * n)
 | .sumTail => fun l ts => SL (4 * n) l ts /\ (l ≠ [] -> szL l + 1 + 4 * (ml ts) <= 4 * n)
 | .prodTail => fun l ts => SL (4 * n) l ts /\ (l ≠ [] -> szL l + 1 + 4 * (ml ts) <= 4 * n)
 | .postTail => fun l ts => SL (4 * n) l ts /\ (l ≠ [] -> szL l + 1 + 4 * (ml ts) <= 4 * n)
 | .args => SL (4 * n)
 | .items => SL (4 * n)
 | .fields => SL (4 * n)
 | _ => S1 (4 * n)
theorem b6 (k : Nat) (l : List Tree) (p : Nat) : sz (.node k l p) = 1 + szL l := by rw [sz]
theorem l0 : szL [] = 0 := by rw [szL]
theorem l1 (t : Tree) (l : List Tree) : szL (t :: l) = sz t + szL l := by rw [szL]
theorem mq {k b : Nat} {x : Tree} {l : List Tree} {ts : List Tok} {u : Nat} (hx : sz x + 4 * u <= b) (h : SL (4 * u) l ts /\ (l ≠ [] -> szL l + 1 + 4 * (ml ts) <= 4 * u)) : sz (alone k (x :: l)) + 4 * (ml ts) <= b := by
 obtain ⟨h1, h2⟩ := h
 unfold SL at h1
 cases l with
 | nil => show sz x + _ <= _; rw [l0] at h1; omega
 | cons y l =>
   have := h2 (by simp)
   show sz (.node k (x :: y :: l) _) + _ <= _
   rw [b6, l1]; omega
theorem qG {k b : Nat} {l : List Tree} {ts : List Tok} (h : (∃ t, l = [t] /\ sz t + 4 * (ml ts) <= b) ∨ (l ≠ [] /\ szL l + 1 + 4 * (ml ts) <= b)) : sz (alone k l) + 4 * (ml ts) <= b := by
 rcases h with ⟨t, rfl, h⟩ | ⟨hne, h⟩
 ·exact h
 ·unfold alone
  split
  ·rw [l1, l0] at h; omega
  ·show sz (.node k _ _) + _ <= _; rw [b6]; omega
theorem Sa.list {s : String} {g : Got} {more : List Tok -> Got} {n : Nat} (h : Sa (S1 (4 * n)) g) (hm : ∀ ts, Sa (SL (4 * (ml ts))) (more ts)) : Sa (SL (4 * n)) (parted s g more) :=
 Sa.one h fun t ts ht => Sa.ite (fun hs => Sa.then (hm _) fun l u hl => Sa.got (by unfold SL at *; have := bY hs; rw [l1]; omega)) fun _ => Sa.got (by unfold SL; rw [l1, l0]; omega)
theorem wq : ∀ (n : Nat) (w : Want) (d : Nat) (ts : List Tok), Sa (SzW w (ml ts)) (parse n w d ts) := by
 intro n
 induction n with
 | zero => intro w d ts; cases w <;> exact Sa.wrong
 | succ n ih =>
   have ex : ∀ d ts, Sa (S1 (4 * (ml ts))) (parse n .expr d ts) := fun d ts => ih .expr d ts
   have bl : ∀ d ts, Sa (S1 (4 * (ml ts))) (parse n .block d ts) := fun d ts => ih .block d ts
   intro w d ts
   cases w with
   | stmts =>
     show Sa (SL (4 * (ml ts))) (stmtsOf (parse n) d ts)
     refine Sa.ite (fun _ => Sa.got (by unfold SL; rw [l0]; omega)) fun _ => Sa.one (ih .stmt d ts) fun t u ht => Sa.then (ih .stmts d u) fun l v hl => Sa.got (by have hl : SL _ l v := hl; unfold SL at *; rw [l1]; omega)
   | stmt =>
     show Sa (S1 (4 * (ml ts))) (stmtOf (parse n) d ts)
     unfold stmtOf
     refine Sa.ite (fun hw => ?_) fun _ => Sa.ite (fun hw => ?_) fun _ => Sa.ite (fun hw => ?_) fun _ => Sa.ite (fun hw => ?_) fun _ => Sa.ite (fun hw => ?_) fun _ => Sa.ite (fun hw => ?_) fun _ => ?_
     ·have p1 := bC hw
      refine Sa.ite (fun h4 => ?_) fun _ => Sa.wrong
      have p2 := hJ (ts := ts.drop 1) (by rw [h4]; decide)
      have p2 : (ml (ts.drop 2)) + 1 + (next (ts.drop 1)).text.length = (ml (ts.drop 1)) := by rw [List.drop_drop] at p2; exact p2
      refine Sa.then (ih .names d _) fun l u hl => Sa.sign fun p3 => Sa.got ⟨_, rfl, ?_⟩
      have hl : SL _ l u := hl
      unfold SL at hl
      rw [b6, l1, show sz (leafOf 2 (ts.drop 1)) = 1 + (next (ts.drop 1)).text.length by rw [leafOf, sz]]; omega
     ·have p1 := bC hw
      refine Sa.name fun t ht p2 => Sa.opened fun p3 => ?_
      have prm : Sa (SL (4 * (ml (((ts.drop 1).drop 1).drop 1)))) (if isSign ")" (((ts.drop 1).drop 1).drop 1) = true then Vablda.got [] (((ts.drop 1).drop 1).drop 1) else parse n .params (d + 1) (((ts.drop 1).drop 1).drop 1)) := Sa.ite (fun _ => Sa.got (by unfold SL; rw [l0]; omega)) fun _ => ih .params (d + 1) _
      refine Sa.then prm fun l v hl => Sa.sign fun p4 => Sa.one (bl d _) fun b z hb => Sa.got ⟨_, rfl, ?_⟩
      unfold SL at hl
      rw [b6, l1, l1, l1, l0, b6]; omega
     ·have p1 := bC hw
      refine Sa.one (ex d _) fun e u he => Sa.one (bl d _) fun b v hb => Sa.ite (fun h5 => Sa.one (bl d _) fun c z hc => Sa.got ⟨_, rfl, ?_⟩) fun _ => Sa.got ⟨_, rfl, ?_⟩
      ·have := bC h5
       rw [b6, l1, l1, l1, l0]; omega
      ·rw [b6, l1, l1, l0]; omega
     ·have p1 := bC hw
      refine Sa.name fun t ht p2 => Sa.word fun p3 => Sa.one (ex d _) fun e v he => Sa.one (bl d _) fun b z hb => Sa.got ⟨_, rfl, ?_⟩
      rw [b6, l1, l1, l1, l0]; omega
     ·have p1 := bC hw
      refine Sa.ite (fun h5 => Sa.got ⟨_, rfl, ?_⟩) fun _ => Sa.one (ex d _) fun e v he => Sa.sign fun p2 => Sa.got ⟨_, rfl, ?_⟩
      ·have := bY h5
       have this : (ml (ts.drop 2)) + 1 + (next (ts.drop 1)).text.length = (ml (ts.drop 1)) := by rw [List.drop_drop] at this; exact this
       rw [b6, l0]; omega
      ·rw [b6, l1, l0]; omega
     ·have p1 := mD hw.1
      have p2 := bY hw.2
      have p2 : (ml (ts.drop 2)) + 1 + (next (ts.drop 1)).text.length = (ml (ts.drop 1)) := by rw [List.drop_drop] at p2; exact p2
      refine Sa.one (ex d _) fun e v he => Sa.sign fun p3 => Sa.got ⟨_, rfl, ?_⟩
      show sz (.node 19 [leafOf 3 ts, e] _) + _ <= _
      rw [b6, l1, l1, l0, show sz (leafOf 3 ts) = 1 + (next ts).text.length by rw [leafOf, sz]]; omega
     ·refine Sa.one (ex d _) fun e v he => Sa.sign fun p3 => Sa.got ⟨_, rfl, ?_⟩
      show sz (.node 20 [e] _) + _ <= _
      rw [b6, l1, l0]; omega
   | block =>
     show Sa (S1 (4 * (ml ts))) (blockOf (parse n) d ts)
     refine Sa.opened fun p1 => Sa.then (ih .stmts (d + 1) _) fun l u hl => Sa.sign fun p2 => Sa.got ⟨_, rfl, ?_⟩
     have hl : SL _ l u := hl
     unfold SL at hl
     rw [b6]; omega
   | names => exact Sa.list (Sa.name fun t ht p1 => Sa.got ⟨t, rfl, by omega⟩) fun u => ih .names d u
   | params =>
     refine Sa.list (Sa.name fun t ht p1 => Sa.ite (fun h => Sa.one (ex d _) fun e v he => Sa.got ⟨_, rfl, ?_⟩) fun _ => Sa.got ⟨_, rfl, ?_⟩) fun u => ih .params d u
     ·have := bY h
      show sz (.node 14 [t, e] _) + _ <= _
      rw [b6, l1, l1, l0]; omega
     ·show sz (.node 14 [t] _) + _ <= _
      rw [b6, l1, l0]; omega
   | expr =>
     show Sa (S1 (4 * (ml ts))) (andThen (parse n .ors d ts) fun l r => Vablda.got [alone 30 l] r)
     exact Sa.then (ih .ors d ts) fun l u hl => Sa.got ⟨_, rfl, qG hl⟩
   | ors =>
     have a1 : Sa (S1 (4 * (ml ts))) (andThen (parse n .ands d ts) fun l r => Vablda.got [alone 31 l] r) := Sa.then (ih .ands d ts) fun l u hl => Sa.got ⟨_, rfl, qG hl⟩
     show Sa (SzW .ors (ml ts)) (joined "or" (andThen (parse n .ands d ts) fun l r => Vablda.got [alone 31 l] r) (parse n .ors d))
     refine Sa.one a1 fun t u ht => Sa.ite (fun h => Sa.then (ih .ors d _) fun l v hl => Sa.got (.inr ⟨by simp, ?_⟩)) fun _ => Sa.got (.inl ⟨t, rfl, ht⟩)
     have := bC h
     rw [l1]
     rcases hl with ⟨x, rfl, hx⟩ | ⟨_, hx⟩
     ·rw [l1, l0]; omega
     ·omega
   | ands =>
     show Sa (SzW .ands (ml ts)) (joined "and" (parse n .not_ d ts) (parse n .ands d))
     refine Sa.one (ih .not_ d ts) fun t u ht => Sa.ite (fun h => Sa.then (ih .ands d _) fun l v hl => Sa.got (.inr ⟨by simp, ?_⟩)) fun _ => Sa.got (.inl ⟨t, rfl, ht⟩)
     have := bC h
     rw [l1]
     rcases hl with ⟨x, rfl, hx⟩ | ⟨_, hx⟩
     ·rw [l1, l0]; omega
     ·omega
   | not_ =>
     show Sa (S1 (4 * (ml ts))) (if isWord "not" ts = true then one (parse n .comp d (ts.drop 1)) fun e r => Vablda.got [.node 32 [e] (next ts).place] r else parse n .comp d ts)
     exact Sa.ite (fun h => Sa.one (ih .comp d _) fun t u ht => Sa.got ⟨_, rfl, by have := bC h; rw [b6, l1, l0]; omega⟩) fun _ => ih .comp d ts
   | comp =>
     show Sa (S1 (4 * (ml ts))) (compOf (parse n) d ts)
     refine Sa.one (ih .sum d ts) fun a u ha => ?_
     cases e : compSign u with
     | none => exact Sa.got ⟨a, rfl, ha⟩
     | some k =>
       have hp : (ml (u.drop 1)) + 1 + (next u).text.length = (ml u) := hJ fun z => by
        have hs : ∀ s, isSign s u = false := fun s => by unfold isSign; rw [z]; rfl
        have hw : ∀ s, isWord s u = false := fun s => by unfold isWord; rw [z]; rfl
        unfold compSign at e
        simp [hs, hw] at e
       refine Sa.one (ih .sum d _) fun b v hb => Sa.got ⟨_, rfl, ?_⟩
       show sz (.node k [a, b] _) + _ <= _
       rw [b6, l1, l1, l0]; omega
   | sum =>
     show Sa (S1 (4 * (ml ts))) (one (parse n .prod d ts) fun x r => andThen (parse n .sumTail d r) fun l q => Vablda.got [alone 38 (x :: l)] q)
     exact Sa.one (ih .prod d ts) fun x u hx => Sa.then (ih .sumTail d u) fun l v hl => Sa.got ⟨_, rfl, mq hx hl⟩
   | sumTail =>
     show Sa (SzW .sumTail (ml ts)) (tailOf sumSign (parse n .prod d) (parse n .sumTail d) ts)
     unfold tailOf
     cases e : sumSign ts with
     | none => exact Sa.got ⟨by unfold SL; rw [l0]; omega, fun z => absurd rfl z⟩
     | some k =>
       have hp : (ml (ts.drop 1)) + 1 + (next ts).text.length = (ml ts) := hJ fun z => by
        have hs : ∀ s, isSign s ts = false := fun s => by unfold isSign; rw [z]; rfl
        unfold sumSign at e
        simp [hs] at e
       refine Sa.one (ih .prod d _) fun x u hx => Sa.then (ih .sumTail d u) fun l v hl => Sa.got ?_
       have hl := hl.1
       unfold SL at hl
       exact ⟨by unfold SL; rw [l1, b6, l1, l0]; omega, fun _ => by rw [l1, b6, l1, l0]; omega⟩
   | prod =>
     show Sa (S1 (4 * (ml ts))) (one (parse n .signed d ts) fun x r => andThen (parse n .prodTail d r) fun l q => Vablda.got [alone 40 (x :: l)] q)
     exact Sa.one (ih .signed d ts) fun x u hx => Sa.then (ih .prodTail d u) fun l v hl => Sa.got ⟨_, rfl, mq hx hl⟩
   | prodTail =>
     show Sa (SzW .prodTail (ml ts)) (tailOf prodSign (parse n .signed d) (parse n .prodTail d) ts)
     unfold tailOf
     cases e : prodSign ts with
     | none => exact Sa.got ⟨by unfold SL; rw [l0]; omega, fun z => absurd rfl z⟩
     | some k =>
       have hp : (ml (ts.drop 1)) + 1 + (next ts).text.length = (ml ts) := hJ fun z => by
        have hs : ∀ s, isSign s ts = false := fun s => by unfold isSign; rw [z]; rfl
        unfold prodSign at e
        simp [hs] at e
       refine Sa.one (ih .signed d _) fun x u hx => Sa.then (ih .prodTail d u) fun l v hl => Sa.got ?_
       have hl := hl.1
       unfold SL at hl
       exact ⟨by unfold SL; rw [l1, b6, l1, l0]; omega, fun _ => by rw [l1, b6, l1, l0]; omega⟩
   | signed =>
     show Sa (S1 (4 * (ml ts))) (if isSign "-" ts = true then one (parse n .post d (ts.drop 1)) fun e r => Vablda.got [.node 43 [e] (next ts).place] r else parse n .post d ts)
     exact Sa.ite (fun h => Sa.one (ih .post d _) fun t u ht => Sa.got ⟨_, rfl, by have := bY h; rw [b6, l1, l0]; omega⟩) fun _ => ih .post d ts
   | post =>
     show Sa (S1 (4 * (ml ts))) (one (parse n .atom d ts) fun x r => andThen (parse n .postTail d r) fun l q => Vablda.got [alone 44 (x :: l)] q)
     exact Sa.one (ih .atom d ts) fun x u hx => Sa.then (ih .postTail d u) fun l v hl => Sa.got ⟨_, rfl, mq hx hl⟩
   | postTail =>
     show Sa (SzW .postTail (ml ts)) (postTailOf (parse n) d ts)
     unfold postTailOf
     have mo : ∀ x r, sz x + 1 + 4 * (ml r) <= 4 * (ml ts) -> Sa (SzW .postTail (ml ts)) (andThen (parse n .postTail d r) fun l q => Vablda.got (x :: l) q) := fun x r hx => Sa.then (ih .postTail d r) fun l u hl => Sa.got (by
      have hl := hl.1
      unfold SL at hl
      exact ⟨by unfold SL; rw [l1]; omega, fun _ => by rw [l1]; omega⟩)
     refine Sa.ite (fun _ => Sa.opened fun p1 => ?_) fun _ => Sa.ite (fun _ => Sa.opened fun p1 => Sa.one (ex (d + 1) _) fun e u he => Sa.sign fun p2 => mo _ _ (by rw [b6, l1, l0]; omega)) fun _ => Sa.ite (fun h => Sa.name fun t ht p2 => mo _ _ (by have := bY h; rw [b6, l1, l0]; omega)) fun _ => Sa.got ⟨by unfold SL; rw [l0]; omega, fun z => absurd rfl z⟩
     have ar : Sa (SL (4 * (ml (ts.drop 1)))) (if isSign ")" (ts.drop 1) = true then Vablda.got [] (ts.drop 1) else parse n .args (d + 1) (ts.drop 1)) := Sa.ite (fun _ => Sa.got (by unfold SL; rw [l0]; omega)) fun _ => ih .args (d + 1) _
     refine Sa.then ar fun l u hl => Sa.sign fun p2 => mo _ _ ?_
     unfold SL at hl
     rw [b6]; omega
   | atom =>
     show Sa (S1 (4 * (ml ts))) (atomOf (parse n) d ts)
     unfold atomOf
     have lf : ∀ k x p, x.length <= (next ts).text.length -> (next ts).kind ≠ 0 -> Sa (S1 (4 * (ml ts))) (Vablda.got [.leaf k x p] (ts.drop 1)) := fun k x p hx hk => Sa.got ⟨_, rfl, by have := hJ hk; rw [sz]; omega⟩
     have nk : ∀ s, isWord s ts = true -> (next ts).kind ≠ 0 := fun s h z => by unfold isWord at h; rw [z] at h; cases h
     refine Sa.ite (fun h => lf _ _ _ (Nat.le_refl _) (by rw [h]; decide)) fun _ => Sa.ite (fun h => lf _ _ _ (Nat.le_refl _) (by rw [h]; decide)) fun _ => Sa.ite (fun h => lf _ _ _ (Nat.le_refl _) (fun z => by unfold isName at h; rw [z] at h; cases h)) fun _ => Sa.ite (fun h => lf _ _ _ (Nat.zero_le _) (nk _ h)) fun _ => Sa.ite (fun h => lf _ _ _ (Nat.zero_le _) (nk _ h)) fun _ => Sa.ite (fun h => lf _ _ _ (Nat.zero_le _) (nk _ h)) fun _ => Sa.ite (fun _ => ?_) fun _ => Sa.ite (fun _ => ?_) fun _ => Sa.ite (fun _ => ?_) fun _ => Sa.wrong
     ·exact Sa.opened fun p1 => Sa.one (ex (d + 1) _) fun e u he => Sa.sign fun p2 => Sa.got ⟨e, rfl, by omega⟩
     ·refine Sa.opened fun p1 => ?_
      unfold listOf
      refine Sa.ite (fun h => Sa.got ⟨_, rfl, by have := bY h; rw [b6, l0]; omega⟩) fun _ => Sa.one (ex (d + 1) _) fun e u he => Sa.ite (fun h => ?_) fun _ => Sa.ite (fun h => ?_) fun _ => ?_
      ·have p2 := bC h
       exact Sa.name fun t ht p3 => Sa.word fun p4 => Sa.one (ex (d + 1) _) fun s z hs => Sa.ite
        (fun h2 => Sa.one (ex (d + 1) _) fun c y hc => Sa.sign fun p5 => Sa.got ⟨_, rfl, by have := bC h2; rw [b6, l1, l1, l1, l1, l0]; omega⟩)
        fun _ => Sa.sign fun p5 => Sa.got ⟨_, rfl, by rw [b6, l1, l1, l1, l0]; omega⟩
      ·have p2 := bY h
       refine Sa.then (ih .items (d + 1) _) fun l v hl => Sa.sign fun p3 => Sa.got ⟨_, rfl, ?_⟩
       have hl : SL _ l v := hl
       unfold SL at hl
       rw [b6, l1]; omega
      ·exact Sa.sign fun p3 => Sa.got ⟨_, rfl, by rw [b6, l1, l0]; omega⟩
     ·refine Sa.opened fun p1 => ?_
      have ar : Sa (SL (4 * (ml (ts.drop 1)))) (if isSign "}" (ts.drop 1) = true then Vablda.got [] (ts.drop 1) else parse n .fields (d + 1) (ts.drop 1)) := Sa.ite (fun _ => Sa.got (by unfold SL; rw [l0]; omega)) fun _ => ih .fields (d + 1) _
      refine Sa.then ar fun l u hl => Sa.sign fun p2 => Sa.got ⟨_, rfl, ?_⟩
      unfold SL at hl
      rw [b6]; omega
   | args =>
     refine Sa.list (Sa.ite (fun h => Sa.one (ex d _) fun e u he => Sa.got ⟨_, rfl, ?_⟩) fun _ => ex d ts) fun u => ih .args d u
     have p1 := mD h.1
     have p2 := bY h.2
     have p2 : (ml (ts.drop 2)) + 1 + (next (ts.drop 1)).text.length = (ml (ts.drop 1)) := by rw [List.drop_drop] at p2; exact p2
     show sz (.node 45 [leafOf 7 ts, e] _) + _ <= _
     rw [b6, l1, l1, l0, show sz (leafOf 7 ts) = 1 + (next ts).text.length by rw [leafOf, sz]]; omega
   | items => exact Sa.list (ex d ts) fun u => ih .items d u
   | fields =>
     refine Sa.list (Sa.name fun t ht p1 => Sa.sign fun p2 => Sa.one (ex d _) fun e v he => Sa.got ⟨_, rfl, ?_⟩) fun u => ih .fields d u
     show sz (.node 51 [t, e] _) + _ <= _
     rw [b6, l1, l1, l0]; omega
theorem file_ok {ts : List Tok} {t : Tree} (h : file ts = .ok t) : ∃ l, t = .node 10 l 0 /\ (∀ x ∈ l, T 157 x) /\ wt t <= 16 * (ml ts) + 4 /\ sz t <= 4 * (ml ts) + 1 := by
 unfold file at h
 cases e : parse (20 * ts.length + 400) .stmts 0 ts with
 | error x => rw [e] at h; cases h
 | ok x =>
   obtain ⟨l, r⟩ := x
   rw [e] at h
   dsimp only at h
   split at h
   ·cases h
    refine ⟨l, rfl, sf _ .stmts 0 ts l r e, ?_⟩
    have h1 := wq _ .stmts 0 ts l r e
    have h1 : szL l + 4 * (ml r) <= 4 * (ml ts) := h1
    have h2 := yj (.node 10 l 0)
    rw [b6] at h2
    exact ⟨by omega, by rw [b6]; omega⟩
   ·cases h
theorem uF : ∀ {r : Text} {x : Text × Text}, quoted r = some x -> x.1.length + x.2.length + 1 <= r.length := by
 intro r
 induction r using quoted.induct <;> intro x h <;> simp_all only [quoted, Option.map_eq_some_iff, Option.some.injEq, reduceCtorEq, if_true, if_false, and_self] <;> first
  | (obtain ⟨y, hy, rfl⟩ := h; rename_i ih; have := ih hy; simp only [List.length_cons] at *; omega)
  | (subst h; simp; done)
  | (split at h <;> first | (cases h; done) | (obtain ⟨y, hy, rfl⟩ := Option.map_eq_some_iff.mp h; rename_i ih _; have := ih hy; simp only [List.length_cons] at *; omega))
theorem cut_ml (w : Nat) : ∀ (n : Nat) (t : Text) (ts : List Tok), cutIn w n t = .ok ts -> ml ts <= 2 * t.length + 1
 | 0, t, ts, h => by cases h
 | n + 1, [], ts, h => by cases h; simp [ml]
 | n + 1, c :: r, ts, h => by
   have bf : ∀ {k x p u}, before k x p (cutIn w n u) = .ok ts -> ml ts <= 2 + x.length + 2 * u.length := fun {k x p u} z => by
    unfold before at z
    cases e : cutIn w n u with
    | error e' => rw [e] at z; cases z
    | ok l =>
      rw [e] at z; cases z
      have := cut_ml w n u l e
      simp only [ml]; omega
   have tw : ∀ f : Nat -> Bool, (r.takeWhile f).length + (r.dropWhile f).length = r.length := fun f => by rw [<- List.length_append, List.takeWhile_append_dropWhile]
   rw [cutIn] at h
   simp only [List.length_cons]
   split at h
   ·have := cut_ml w n r ts h; omega
   ·split at h
    ·have := cut_ml w n _ ts h; have := tw fun x => x != 10; omega
    ·split at h
     ·dsimp only at h
      split at h
      ·cases h
      ·have := bf h; have := tw inner; simp only [List.length_cons] at *; omega
     ·split at h
      ·dsimp only at h
       split at h
       ·have := bf h; have := tw digit; simp only [List.length_cons] at *; omega
       ·cases h
      ·split at h
       ·split at h
        ·rename_i x hq
         split at h
         ·cases h
         ·have := bf h; have := uF hq; omega
        ·cases h
       ·split at h
        ·have := bf h
         simp only [List.length_take, List.length_drop, List.length_cons] at this; omega
        ·split at h
         ·have := bf h; simp only [List.length_cons, List.length_nil] at this; omega
         ·cases h
end Vp
namespace L2
open PySem PySem.Spec PyProof.Rows
open Vablda (Got next got andThen one parse)
def rs (n : Nat) (ts : List Tk) : Got := andThen (parse n .stmts 0 ts) fun l q => if (next q).kind = 0 then got [.node 10 l 0] q else Vablda.wrong q
def wr (K : Frag) (A : Ad) : Sp := sp1 fun a H Q E => ∃ r F ts n, a = .ref r /\ Rs A r F H 0 ts /\ 20 * ts.length + 20 <= n /\ Res K A r F H 0 (ts.length + 1) (rs n ts) Q E
theorem oo {K : Frag} {A : Ad} {r : Addr} {F0 H0 F H : Hp} {d d' n0 n1 : Nat} {ts : List Tk} {Q Q' : VK} {E : XK} (h : Res K A r F0 H0 d n0 (Vablda.wrong ts) Q E) : Res K A r F H d' n1 (Vablda.wrong ts) Q' E := h
section
variable {P : Program} {w : World} {K : Frag} {mg : Str -> Option Value} {base : Heap} {A : Ad} {k k0 j : Nat}
abbrev fN : Stmt := top 136
theorem eu : ai ["reader", "place", "stmts"] ["reader"] (ad fN) := by walk_at "sc"
theorem nQ (T : Txt P w K mg A) (F : Fd K mg "read_block" fN) (aB : Md P w K mg base A.rdr "enter" k ["self", "bracket"] (dh K A)) (ag : Md P w K mg base A.rdr "sees" k ["self", "kind"] (bQ A)) (i9 : Fn P w K mg base "read_stmt" k ["reader"] (spG K A j (gW .stmt) 11)) (au : Md P w K mg base A.rdr "leave" k ["self", "bracket"] (ci K A)) (ay : Fn P w K mg base "node" k ["kind", "place", "parts"] (aX A))  : Fn P w K mg base "read_block" (k + 1) ["reader"] (spG K A (j + 1) (gW .block) 13) := by
 refine Fn.of1 F eu (fun _ _ _ _ _ _ _ => rfl) fun g cdv Ar outer s H a Q E hr h => ⟨_, (a9 (aq (i := 1) (q_f T.cl_tok T.na_tok_place (q_m T.cl_rdr aB hr ae (q_v 0) (a8 aw aa))) eu.nd) (a9 (aq (i := 2) (aJ aa) eu.nd) (a9 (bp (bv PassesOwn.leaving (fL (c6 (q_m T.cl_rdr ag hr ae (q_v 0) (a8 aw aa)))) (ac (aA (cD (q_v 2) (q_c i9 hr ae (a8 (q_v 0) aa))))))) (a9 (aA (q_m T.cl_rdr au hr ae (q_v 0) (a8 aw aa))) (ac (aj (q_c ay hr ae (a8 (q_g T.g_BLOCK) (a8 (q_v 1) (a8 (q_v 2) aa)))))))))), ?_⟩
 obtain ⟨r, F', d, ts, n, rfl, R, hd, hn, hR⟩ := h
 obtain ⟨n, rfl⟩ : ∃ m, n = m + 1 := ⟨n - 1, by omega⟩
 have hR : Res K A r F' H d ts.length (Vablda.blockOf (parse n) d ts) Q E := hR
 unfold Vablda.blockOf at hR
 walk_at "rd"
 refine R.call (by decide) (dF hR (Grow.refl _ _ _) R (by decide) hd.1 fun v1 H1 G1 _ R1 hl1 hd1 hv1 hR1 => ?_)
 obtain ⟨a1, dx1, fs1, rfl, h1, h2, _⟩ := hv1.place R1.sub
 refine ⟨dx1, _, _, h1, h2, by decide, fun p hp => ?_⟩
 obtain ⟨G2, R2, L2⟩ := aL (vs := []) (xs := []) G1 R1 hp .nil
 refine bo (fun σ H' => ∃ F'' ts' xs, σ = [some (.ref r), some (.int (next ts).place), some (.ref p)] /\ Grow r F' H F'' H' /\ Rs A r F'' H' (d + 1) ts' /\ ts'.length <= ts.length /\ Ll A H F'' H' p xs /\ Res K A r F' H d ts.length (Vablda.sign "}" ts' fun u => got [.node 15 xs (next ts).place] u) Q E)
  (Exists.intro (fun m σ H' => ∃ F'' ts' xs n', σ = [some (.ref r), some (.int (next ts).place), some (.ref p)] /\ m = ts'.length /\ Grow r F' H F'' H' /\ Rs A r F'' H' (d + 1) ts' /\ xs.length + ts'.length <= ts.length /\ Ll A H F'' H' p xs /\ 20 * ts'.length + 12 <= n' /\
   Res K A r F' H d ts.length (andThen (parse n' .stmts (d + 1) ts') fun l q => Vablda.sign "}" q fun u => got [.node 15 (xs ++ l) (next ts).place] u) Q E) ⟨⟨_, F', ts.drop 1, [], n, rfl, rfl, G2, R2, by simp, L2, by omega, hR1⟩, ?_⟩) ?_
 ·rintro m σ H' ⟨F2, ts2, xs, n', rfl, rfl, G3, R3, hlen, L3, hb, hR3⟩
  obtain ⟨n', rfl⟩ : ∃ m, n' = m + 1 := ⟨n' - 1, by omega⟩
  have hR3 : Res K A r F' H d ts.length (andThen (Vablda.stmtsOf (parse n') (d + 1) ts2) fun l q => Vablda.sign "}" q fun u => got [.node 15 (xs ++ l) (next ts).place] u) Q E := hR3
  unfold Vablda.stmtsOf at hR3
  walk_at "rd"
  refine R3.call (by decide) ⟨r, F2, d + 1, ts2, _, rfl, rfl, R3, ?_⟩
  by_cases e : kd ts2 = "}"
  ·have es : Vablda.isSign "}" ts2 = true := by rw [aM R3.gd, decide_eq_true e]
   rw [if_pos (.inl es)] at hR3
   rw [decide_eq_true e]
   have hR3 : Res K A r F' H d ts.length (Vablda.sign "}" ts2 fun u => got [.node 15 (xs ++ []) (next ts).place] u) Q E := hR3
   rw [List.append_nil] at hR3
   exact lc ⟨F2, ts2, xs, by trivial, G3, R3, by omega, L3, hR3⟩
  ·have es : ¬ Vablda.isSign "}" ts2 = true := by rw [aM R3.gd, decide_eq_true_eq]; exact e
   rw [decide_eq_false e]
   obtain ⟨vs3, hvs3, htr3⟩ := L3.at_
   by_cases e0 : (next ts2).kind = 0
   ·rw [if_pos (.inr e0)] at hR3
    have hR4 : Res K A r F' H d ts.length (Vablda.sign "}" ts2 fun u => got [.node 15 (xs ++ []) (next ts).place] u) Q E := hR3
    unfold Vablda.sign at hR4
    rw [if_neg es] at hR4
    refine iA ⟨_, fun _ _ h => h, ⟨_, hvs3⟩, r, F2, d + 1, ts2, n', rfl, R3, ⟨hd1, by omega⟩, by omega, ?_⟩
    obtain ⟨m', rfl⟩ : ∃ m, n' = m + 11 := ⟨n' - 11, by omega⟩
    show Res K A r F2 H' (d + 1) ts2.length (parse (m' + 11) .stmt (d + 1) ts2) _ E
    rw [uc e0]
    exact oo hR4
   ·rw [if_neg (fun z => z.elim es e0), br] at hR3
    refine iA ⟨_, fun _ _ h => h, ⟨_, hvs3⟩, r, F2, d + 1, ts2, n', rfl, R3, ⟨hd1, by omega⟩, by omega, aF hR3 G3 fun t5 ts5 F5 H5 v5 G5 g5 R5 hlt5 ht5 hR5 => ?_⟩
    have L5 := L3.grow g5 R3 R5
    obtain ⟨vs5, hvs5, htr5⟩ := L5.at_
    refine ⟨vs5, hvs5, ?_, ?_⟩
    ·rw [htr5.len, sizeLine_eq]; have := R.le; omega
    ·obtain ⟨G6, R6, L6⟩ := cf G5 R5 L5 (htr5.snoc ht5)
     refine ⟨_, hlt5, F5, ts5, xs ++ [t5], n', rfl, rfl, G6, R6, by simp; omega, L6, by omega, ?_⟩
     rw [eT] at hR5
     simp only [List.append_assoc]
     exact hR5
 ·rintro σ H' ⟨F2, ts2, xs, rfl, G3, R3, hl3, L3, hR3⟩
  walk_at "rd"
  refine R3.call (by decide) (cX hR3 G3 R3 (by decide) fun H7 G7 g7 R7 hl7 hR7 => aU (kk := 15) (pp := (next ts).place) G7 R7 (L3.grow g7 R3 R7) fun F8 H8 v8 G8 R8 ht8 _ _ => hR7.out G8 R8 (by omega) ht8)
end
end L2
namespace L2
open PySem PySem.Spec PyProof.Rows
open Vablda (Got next got andThen one parse)
section
variable {P : Program} {w : World} {K : Frag} {mg : Str -> Option Value} {base : Heap} {A : Ad} {k k0 j : Nat}
abbrev hG : Stmt := top 129
theorem jL : ai ["reader", "stmts"] ["reader"] (ad hG) := by walk_at "sc"
theorem pE (T : Txt P w K mg A) (F : Fd K mg "read_file" hG) (ag : Md P w K mg base A.rdr "sees" k ["self", "kind"] (bQ A)) (i9 : Fn P w K mg base "read_stmt" k ["reader"] (spG K A 13 (gW .stmt) 11)) (ay : Fn P w K mg base "node" k ["kind", "place", "parts"] (aX A))  : Fn P w K mg base "read_file" (k + 1) ["reader"] (wr K A) := by
 refine Fn.of1 F jL (fun _ _ _ _ _ _ _ => rfl) fun g cdv Ar outer s H a Q E hr h => ⟨_, (a9 (aq (i := 1) (aJ aa) jL.nd) (a9 (bp (bv PassesOwn.leaving (fL (c6 (q_m T.cl_rdr ag hr ae (q_v 0) (a8 aw aa)))) (ac (aA (cD (q_v 1) (q_c i9 hr ae (a8 (q_v 0) aa))))))) (ac (aj (q_c ay hr ae (a8 (q_g T.g_FILE) (a8 ap (a8 (q_v 1) aa)))))))), ?_⟩
 obtain ⟨r, F', ts, n, rfl, R, hn, hR⟩ := h
 unfold rs at hR
 walk_at "rd"
 refine ⟨by decide, fun p hp => ?_⟩
 obtain ⟨G2, R2, L2⟩ := aL (vs := []) (xs := []) (Grow.refl r F' H) R hp .nil
 refine bo (fun σ H' => ∃ F'' ts' xs, σ = [some (.ref r), some (.ref p)] /\ Grow r F' H F'' H' /\ Rs A r F'' H' 0 ts' /\ ts'.length <= ts.length /\ Ll A H F'' H' p xs /\ Res K A r F' H 0 (ts.length + 1) (got [.node 10 xs 0] ts') Q E)
  (Exists.intro (fun m σ H' => ∃ F'' ts' xs n', σ = [some (.ref r), some (.ref p)] /\ m = ts'.length /\ Grow r F' H F'' H' /\ Rs A r F'' H' 0 ts' /\ xs.length + ts'.length <= ts.length /\ Ll A H F'' H' p xs /\ 20 * ts'.length + 12 <= n' /\
   Res K A r F' H 0 (ts.length + 1) (andThen (parse n' .stmts 0 ts') fun l q => if (next q).kind = 0 then got [.node 10 (xs ++ l) 0] q else Vablda.wrong q) Q E) ⟨⟨_, F', ts, [], n, rfl, rfl, G2, R2, by simp, L2, by omega, hR⟩, ?_⟩) ?_
 ·rintro m σ H' ⟨F2, ts2, xs, n', rfl, rfl, G3, R3, hlen, L3, hb, hR3⟩
  obtain ⟨n', rfl⟩ : ∃ m, n' = m + 1 := ⟨n' - 1, by omega⟩
  have hR3 : Res K A r F' H 0 (ts.length + 1) (andThen (Vablda.stmtsOf (parse n') 0 ts2) fun l q => if (next q).kind = 0 then got [.node 10 (xs ++ l) 0] q else Vablda.wrong q) Q E := hR3
  unfold Vablda.stmtsOf at hR3
  walk_at "rd"
  refine R3.call (by decide) ⟨r, F2, 0, ts2, _, rfl, rfl, R3, ?_⟩
  by_cases e0 : (next ts2).kind = 0
  ·rw [if_pos (.inr e0)] at hR3
   rw [decide_eq_true ((kQ R3.gd).mp e0)]
   have hR3 : Res K A r F' H 0 (ts.length + 1) (if (next ts2).kind = 0 then got [.node 10 (xs ++ []) 0] ts2 else Vablda.wrong ts2) Q E := hR3
   rw [List.append_nil, if_pos e0] at hR3
   exact lc ⟨F2, ts2, xs, by trivial, G3, R3, by omega, L3, hR3⟩
  ·rw [decide_eq_false (fun z => e0 ((kQ R3.gd).mpr z))]
   obtain ⟨vs3, hvs3, htr3⟩ := L3.at_
   by_cases es : Vablda.isSign "}" ts2 = true
   ·rw [if_pos (.inl es)] at hR3
    have hR4 : Res K A r F' H 0 (ts.length + 1) (if (next ts2).kind = 0 then got [.node 10 (xs ++ []) 0] ts2 else Vablda.wrong ts2) Q E := hR3
    rw [if_neg e0] at hR4
    refine iA ⟨_, fun _ _ h => h, ⟨_, hvs3⟩, r, F2, 0, ts2, n', rfl, R3, ⟨by omega, by omega⟩, by omega, ?_⟩
    obtain ⟨m', rfl⟩ : ∃ m, n' = m + 11 := ⟨n' - 11, by omega⟩
    show Res K A r F2 H' 0 ts2.length (parse (m' + 11) .stmt 0 ts2) _ E
    rw [rc es]
    exact oo hR4
   ·rw [if_neg (fun z => z.elim es e0), br] at hR3
    refine iA ⟨_, fun _ _ h => h, ⟨_, hvs3⟩, r, F2, 0, ts2, n', rfl, R3, ⟨by omega, by omega⟩, by omega, aF hR3 G3 fun t5 ts5 F5 H5 v5 G5 g5 R5 hlt5 ht5 hR5 => ?_⟩
    have L5 := L3.grow g5 R3 R5
    obtain ⟨vs5, hvs5, htr5⟩ := L5.at_
    refine ⟨vs5, hvs5, ?_, ?_⟩
    ·rw [htr5.len, sizeLine_eq]; have := R.le; omega
    ·obtain ⟨G6, R6, L6⟩ := cf G5 R5 L5 (htr5.snoc ht5)
     refine ⟨_, hlt5, F5, ts5, xs ++ [t5], n', rfl, rfl, G6, R6, by simp; omega, L6, by omega, ?_⟩
     rw [eT] at hR5
     simp only [List.append_assoc]
     exact hR5
 ·rintro σ H' ⟨F2, ts2, xs, rfl, G3, R3, hl3, L3, hR3⟩
  walk_at "rd"
  exact aU (kk := 10) (pp := 0) G3 R3 L3 fun F8 H8 v8 G8 R8 ht8 _ _ => hR3.out G8 R8 (by omega) ht8
end
end L2
namespace L2
open PySem PySem.Spec PyProof.Rows
def cN (x y : Int × Int) : Bool := decide (x.1 < y.1 ∨ (x.1 = y.1 /\ x.2 < y.2))
theorem wu (x y : Int × Int) : HT.lexLt [x.1, x.2] [y.1, y.2] = cN x y := by
 unfold cN
 rw [HT.lexLt.eq_def]
 dsimp only
 by_cases h : x.1 = y.1
 ·rw [if_pos h, HT.lexLt.eq_def]
  dsimp only
  by_cases h2 : x.2 = y.2
  ·rw [if_pos h2, HT.lexLt.eq_def]
   exact (decide_eq_false (by omega)).symm
  ·rw [if_neg h2]
   exact decide_eq_decide.mpr (by omega)
 ·rw [if_neg h]
  exact decide_eq_decide.mpr (by omega)
structure Tups (h : Heap) (ax I S : Addr) (items : Array Value) (ks : Nat -> Int × Int) : Prop where
 lst : h.IsList ax items
 at_ : ∀ i v, items[i]? = some v -> ∃ a its, v = .ref a /\ a ≠ I /\ a ≠ S /\ IsTup h a its /\ IntsAre its.toList [(ks i).1, (ks i).2]
theorem Tups.keep {h h' : Heap} {ax I S : Addr} {items : Array Value} {ks : Nat -> Int × Int} (t : Tups h ax I S items ks) (hx : ax ≠ I) (hs : ax ≠ S) (k : ∀ b o, b ≠ I -> b ≠ S -> h.get? b = some o -> h'.get? b = some o) : Tups h' ax I S items ks := by
 obtain ⟨o, h1, h2, n, h3⟩ := t.lst
 refine ⟨⟨o, k _ _ hx hs h1, h2, n, h3⟩, fun i v e => ?_⟩
 obtain ⟨a, its, e1, e2, e3, ⟨o, g1, g2, g3⟩, e5⟩ := t.at_ i v e
 exact ⟨a, its, e1, e2, e3, ⟨o, k _ _ e2 e3 g1, g2, g3⟩, e5⟩
section
variable {prog : Program} {w : World} {A : Around} {R : Result -> Shared -> Prop} {I S ax : Addr} {items : Array Value} {ks : Nat -> Int × Int}
theorem uG (hh : A.handled = none) (hu : A.units + 1 < cLine) (hx : ax ≠ I) (hs : ax ≠ S) (hSI : S ≠ I) (g : Array GenState) (d : Drawn) (os : OsState) (h0 : Heap)
  (hR : ∀ (b : Nat) (v : Value) (h' : Heap) (tk : Nat), items[b]? = some v -> (∀ j, j < items.size -> cN (ks j) (ks b) = false) -> (∀ b o, b ≠ I -> b ≠ S -> h0.get? b = some o -> h'.get? b = some o) -> R (.ok (.ret v)) ⟨h', g, d, tk, os⟩) :
  ∀ (r j b : Nat) (h : Heap) (tk : Nat) (vb : Value) (c : Nat), items.size - (j + 1) = r -> j + 1 <= items.size -> Tups h ax I S items ks -> h.IsListIter I ax (j + 1) -> h.get? S = some { cls := .type "list", data := .seq #[vb, vb] c } -> items[b]? = some vb -> b <= j -> (∀ i, i <= j -> cN (ks i) (ks b) = false) ->
    (∀ b o, b ≠ I -> b ≠ S -> h0.get? b = some o -> h.get? b = some o) -> codeAny (model prog w) A (.builtin "min.loop" { pos := [.ref I, .none, .ref S] }) R ⟨h, g, d, tk, os⟩ := by
 intro r
 induction r with
 | zero =>
   intro j b h tk vb c hr hj T it hS hb hbj hbest k0
   have W := Walks.list (prog := prog) (w := w) (A := A.in1) hh I ax hx items
   have hn : j + 1 = items.size := by omega
   refine codeAny_builtin PySem.F.entry_min_loop ?_
   refine wpAny_bind (wpAny_seqItems hS rfl ?_)
   refine wpAny_bind (wpAny_tryCatch ?_)
   refine W.done ⟨h, g, d, tk, os⟩ _ _ ⟨by rw [<- hn]; exact it, T.lst⟩ fun h' tk' kp => ?_
   have hS' : h'.get? S = some { cls := .type "list", data := .seq #[vb, vb] c } := kp S _ (by simp [hSI]) hS
   show wpAny _ _ (do updateSeq S fun x => #[]; letGo [vb] [vb]; ret vb) _ _ _
   refine wpAny_bind (wpAny_updateSeq hS' rfl (wpAny_bind (wpAny_letGo (wpAny_pure ?_))) (by simp [sizeLine_eq]) (by simp))
   refine hR b vb _ _ hb (fun i hi => hbest i (by omega)) fun x o e1 e2 e => ?_
   rw [Heap.get?_update_ne _ _ _ _ e2]
   exact kp x o (by simp [e1]) (k0 x o e1 e2 e)
 | succ r ih =>
   intro j b h tk vb c hr hj T it hS hb hbj hbest k0
   have W := Walks.list (prog := prog) (w := w) (A := A.in1) hh I ax hx items
   refine codeAny_builtin PySem.F.entry_min_loop ?_
   refine wpAny_bind (wpAny_seqItems hS rfl ?_)
   refine wpAny_bind (wpAny_tryCatch ?_)
   refine W.item (j + 1) ⟨h, g, d, tk, os⟩ _ _ (by omega) ⟨it, T.lst⟩ fun v h' tk' hv st' kp => ?_
   have k1 : ∀ b o, b ≠ I -> b ≠ S -> h.get? b = some o -> h'.get? b = some o := fun b o e1 _ e => kp b o (by simp [e1]) e
   have T' := T.keep hx hs k1
   have hS' : h'.get? S = some { cls := .type "list", data := .seq #[vb, vb] c } := kp S _ (by simp [hSI]) hS
   obtain ⟨a1, its1, rfl, _, _, tp1, in1⟩ := T'.at_ (j + 1) v hv
   obtain ⟨a2, its2, rfl, _, _, tp2, in2⟩ := T'.at_ b vb hb
   refine wpAny_bind (wpAny_pure ?_)
   refine wpAny_bind (wpAny_tryCatch (wpAny_holding (wpAny_bind ?_)))
   refine HT.lt_tupInts (ns := [(ks (j + 1)).1, (ks (j + 1)).2]) (ms := [(ks b).1, (ks b).2]) tp1 tp2 in1 in2 hu ?_
   rw [wu]
   refine wpAny_bind (wpAny_holding (wpAny_truthy_bool (wpAny_bind (wpAny_letGo (wpAny_pure ?_)))))
   cases hlt : cN (ks (j + 1)) (ks b) with
   | false =>
     rw [if_neg Bool.false_ne_true]
     refine wpAny_bind (wpAny_letGo (wpAny_pure ⟨rfl, ?_⟩))
     exact ih (j + 1) b h' tk' _ c (by omega) (by omega) T' st'.1 hS' hb (by omega) (fun i hi => by
      by_cases e : i = j + 1
      ·rw [e]; exact hlt
      ·exact hbest i (by omega)) fun x o e1 e2 e => k1 x o e1 e2 (k0 x o e1 e2 e)
   | true =>
     rw [if_pos rfl]
     refine wpAny_bind (wpAny_updateSeq hS' rfl (wpAny_bind (wpAny_letGo (wpAny_pure ⟨rfl, ?_⟩))) (by simp [sizeLine_eq]) (by simp [sizeLine_eq]))
     have kq : ∀ x o, x ≠ I -> x ≠ S -> h'.get? x = some o -> (h'.update S (Obj.mapSeq fun _ => #[Value.ref a1, Value.ref a1])).get? x = some o := fun x o _ e2 e => by rw [Heap.get?_update_ne _ _ _ _ e2]; exact e
     have T2 := T'.keep hx hs kq
     refine ih (j + 1) (j + 1) _ tk' (.ref a1) c (by omega) (by omega) T2 ?_ ?_ hv (by omega) (fun i hi => ?_) fun x o e1 e2 e => kq x o e1 e2 (k1 x o e1 e2 (k0 x o e1 e2 e))
     ·obtain ⟨o, g1, g2⟩ := st'.1
      exact ⟨o, by rw [Heap.get?_update_ne _ _ _ _ hSI.symm]; exact g1, g2⟩
     ·rw [Heap.get?_update_self _ hS' rfl]; rfl
     ·by_cases e : i = j + 1
      ·rw [e]; exact decide_eq_false (by omega)
      ·have h1 := of_decide_eq_false (hbest i (by omega))
       have h2 := of_decide_eq_true hlt
       exact decide_eq_false (by omega)
theorem n8 {E : Value -> Shared -> Prop} {Q : Value -> Shared -> Prop} {s : Shared} (hh : A.handled = none) (hu : A.units + 1 < cLine) (hl : s.heap.IsList ax items)
  (ht : ∀ i v, items[i]? = some v -> ∃ a its, v = .ref a /\ IsTup s.heap a its /\ IntsAre its.toList [(ks i).1, (ks i).2]) (hn : 0 < items.size)
  (hQ : ∀ (b : Nat) (v : Value) (h' : Heap) (tk : Nat), items[b]? = some v -> (∀ j, j < items.size -> cN (ks j) (ks b) = false) -> (∀ b o, s.heap.get? b = some o -> h'.get? b = some o) -> Q v { s with heap := h', toks := tk }) :
  wpAny (model prog w) A (call (.builtin "min") [.ref ax]) Q E s := by
 obtain ⟨h, g, d, tk, os⟩ := s
 refine wpAny_call (codeAny_call_builtin PySem.F.plain_min PySem.F.entry_min ?_)
 rw [show checkBuiltinCall "min" { pos := [.ref ax] } = pure () from PySem.F.args_min1 _]
 refine wpAny_pure ?_
 unfold Builtin.min
 refine wpAny_bind (wpAny_pure (wpAny_bind (wpAny_pure (wpAny_bind (wpAny_pyIter_list hl (wpAny_bind (wpAny_newList ?_)))))))
 generalize hI : h.objs.size = I
 let h1 := h.push { cls := .type "list_iterator", data := .fields #[.ref ax, .int 0 0] }
 have hS : h1.objs.size = I + 1 := by rw [<- hI]; simp [h1, Heap.push]
 generalize hSd : h1.objs.size = S at *
 subst hS
 have kp1 : ∀ b o, h.get? b = some o -> h1.get? b = some o := fun b o e => Heap.get?_push_of_some _ e
 have kp2 : ∀ b o, h.get? b = some o -> (h1.push { cls := .type "list", data := .seq #[] }).get? b = some o := fun b o e => Heap.get?_push_of_some _ (kp1 b o e)
 have lt : ∀ b o, h.get? b = some o -> b < I := fun b o e => by rw [<- hI]; exact Heap.lt_size e
 obtain ⟨ol, ho, hc, nl, hd⟩ := id hl
 have hx : ax ≠ I := Nat.ne_of_lt (lt _ _ ho)
 have hs : ax ≠ I + 1 := Nat.ne_of_lt (Nat.lt_succ_of_lt (lt _ _ ho))
 have T : Tups (h1.push { cls := .type "list", data := .seq #[] }) ax I (I + 1) items ks := by
  refine ⟨⟨ol, kp2 _ _ ho, hc, nl, hd⟩, fun i v e => ?_⟩
  obtain ⟨a, its, e1, ⟨o, g1, g2, g3⟩, e5⟩ := ht i v e
  exact ⟨a, its, e1, Nat.ne_of_lt (lt _ _ g1), Nat.ne_of_lt (Nat.lt_succ_of_lt (lt _ _ g1)), ⟨o, kp2 _ _ g1, g2, g3⟩, e5⟩
 have hSg : (h1.push { cls := .type "list", data := .seq #[] }).get? (I + 1) = some { cls := .type "list", data := .seq #[] } := by
  rw [<- hSd]; exact Heap.get?_push_size _ rfl
 have hIg : (h1.push { cls := .type "list", data := .seq #[] }).IsListIter I ax 0 := by
  refine ⟨{ cls := .type "list_iterator", data := .fields #[.ref ax, .int 0 0] }, Heap.get?_push_of_some _ ?_, rfl, rfl⟩
  rw [<- hI]; exact Heap.get?_push_size _ rfl
 refine wpAny_pure ⟨rfl, ?_⟩
 show codeAny (model prog w) A (.builtin "min.loop" { pos := [.ref I, .none, .ref (I + 1)] }) _ ⟨h1.push { cls := .type "list", data := .seq #[] }, g, d, tk, os⟩
 have W := Walks.list (prog := prog) (w := w) (A := A.in1) hh I ax hx items
 refine codeAny_builtin PySem.F.entry_min_loop ?_
 refine wpAny_bind (wpAny_seqItems hSg rfl ?_)
 refine wpAny_bind (wpAny_tryCatch ?_)
 refine W.item 0 ⟨_, g, d, tk, os⟩ _ _ hn ⟨hIg, T.lst⟩ fun v h' tk' hv st' kp => ?_
 have hSI : I + 1 ≠ I := by omega
 have hS' := kp (I + 1) _ (by simp) hSg
 refine wpAny_bind (wpAny_pure ?_)
 refine wpAny_bind (wpAny_updateSeq hS' rfl (wpAny_pure ⟨rfl, ?_⟩) (by simp [sizeLine_eq]) (by simp [sizeLine_eq]))
 have kq : ∀ x o, x ≠ I -> x ≠ I + 1 -> (h1.push { cls := .type "list", data := .seq #[] }).get? x = some o -> (h'.update (I + 1) (Obj.mapSeq fun _ => #[v, v])).get? x = some o := fun x o e1 e2 e => by rw [Heap.get?_update_ne _ _ _ _ e2]; exact kp x o (by simp [e1]) e
 refine uG hh hu hx hs hSI g d os h (fun b v' h'' tk'' hb hbest kz => ?_) (items.size - 1) 0 0 _ tk' v _ (by omega) (by omega) (T.keep hx hs kq) ?_ (by rw [Heap.get?_update_self _ hS' rfl]; rfl) hv (Nat.le_refl _) (fun i hi => ?_) fun x o e1 e2 e => kq x o e1 e2 (kp2 x o e)
 ·exact hQ b v' h'' tk'' hb hbest fun x o e => kz x o (Nat.ne_of_lt (lt _ _ e)) (Nat.ne_of_lt (Nat.lt_succ_of_lt (lt _ _ e))) e
 ·obtain ⟨o, g1, g2⟩ := st'.1
  exact ⟨o, by rw [Heap.get?_update_ne _ _ _ _ hSI.symm]; exact g1, g2⟩
 ·obtain rfl : i = 0 := by omega
  exact decide_eq_false (by omega)
end
def prs (fs : List (Int × Int)) (H : Hp) (vs : List V) : Prop := Paired (fun v (f : Int × Int) => ∃ a, v = V.ref a /\ H a = some (.tup [.int f.1, .int f.2])) vs fs
def yq : List V -> Hp -> VK -> Prop := fun xs H Q => match xs with
 | [.ref p] => ∃ vs fs, H p = some (.lst vs) /\ prs fs H vs /\ fs ≠ [] /\ ∀ (f : Int × Int) (a : Addr), f ∈ fs -> (∀ x ∈ fs, cN x f = false) -> H a = some (.tup [.int f.1, .int f.2]) -> Q (.ref a) H
 | _ => False
theorem Paired.get2 {α β : Type} {R : α -> β -> Prop} : ∀ {l : List α} {m : List β} {i : Nat} {x : α}, Paired R l m -> l[i]? = some x -> ∃ y, m[i]? = some y /\ R x y
 | _, _, 0, _, .cons h _, e => by cases e; exact ⟨_, rfl, h⟩
 | _, _, i + 1, _, .cons _ t, e => Paired.get2 (i := i) t e
 | _, _, i, _, .nil, e => by simp at e
theorem Paired.get1 {α β : Type} {R : α -> β -> Prop} : ∀ {l : List α} {m : List β} {i : Nat} {y : β}, Paired R l m -> m[i]? = some y -> ∃ x, l[i]? = some x /\ R x y
 | _, _, 0, _, .cons h _, e => by cases e; exact ⟨_, rfl, h⟩
 | _, _, i + 1, _, .cons _ t, e => Paired.get1 (i := i) t e
 | _, _, i, _, .nil, e => by simp at e
theorem wH {X : Cx} (hc : X.calm = true) (hu : X.A.units + 1 < cLine) : CallR X (.builtin "min") yq := by
 intro pins s σ H xs us Q I r h
 unfold yq at h
 split at h
 ·rename_i p
  obtain ⟨vs, fs, hp, hpr, hne, q⟩ := h
  rw [Vals.ref1 r]
  obtain ⟨its, rv, hl, _⟩ := I.list (.inl (.inl hp))
  have hlen : vs.length = its.length := rv.length
  have hlf : vs.length = fs.length := hpr.length
  have pos : 0 < fs.length := by cases fs with | nil => exact absurd rfl hne | cons a l => simp
  refine n8 (items := its.toArray) (ks := fun i => (fs[i]?).getD (0, 0)) (I.ok.hd hc) hu hl.isList (fun i v e => ?_) (by simp; omega) fun b v h' tk e hbest kp => ?_
  ·have e : its[i]? = some v := by simpa using e
   obtain ⟨x, ex, rx⟩ := Paired.get1 rv e
   obtain ⟨f, ef, a, rfl, ha⟩ := Paired.get2 hpr ex
   obtain rfl : v = Value.ref a := rx
   obtain ⟨its2, r2, p2, _⟩ := I.tuple (.inl (.inl ha))
   refine ⟨a, its2.toArray, rfl, p2, ?_⟩
   rw [ef]
   exact sj (ns := [f.1, f.2]) r2
  ·have e : its[b]? = some v := by simpa using e
   obtain ⟨x, ex, rx⟩ := Paired.get1 rv e
   obtain ⟨f, ef, a, rfl, ha⟩ := Paired.get2 hpr ex
   obtain rfl : v = Value.ref a := rx
   refine ⟨.ref a, H, I.kept kp, rfl, q f a (List.mem_of_getElem? ef) (fun x hx => ?_) ha⟩
   obtain ⟨j, hj⟩ := List.mem_iff_getElem?.mp hx
   have := hbest j (by have := (List.getElem?_eq_some_iff.mp hj).1; simp; omega)
   rw [hj, ef] at this
   exact this
 ·exact h.elim
end L2
namespace L2
open PySem PySem.Spec PyProof.Rows
abbrev Flt := Vablda.Fault
def pk (f : Flt) : Int × Int := ((f.place : Int), (f.kind : Int))
def FlsAt (H : Hp) (q : Addr) (fs : List Flt) : Prop := ∃ vs, H q = some (.lst vs) /\ prs (fs.map pk) H vs
theorem prs.keep {fs : List (Int × Int)} {H H' : Hp} {vs : List V} (h : prs fs H vs) (e : ∀ a ys, H a = some (.tup ys) -> H' a = some (.tup ys)) : prs fs H' vs := Paired.mapP h fun _ _ ⟨a, h1, h2⟩ => ⟨a, h1, e _ _ h2⟩
theorem prs.snoc {fs : List (Int × Int)} {f : Int × Int} {H : Hp} {vs : List V} {a : Addr} (h : prs fs H vs) (ha : H a = some (.tup [.int f.1, .int f.2])) : prs (fs ++ [f]) H (vs ++ [.ref a]) := Paired.snoc h ⟨a, rfl, ha⟩
theorem FlsAt.len {H : Hp} {fs : List Flt} {vs : List V} (h : prs (fs.map pk) H vs) : vs.length = fs.length := by rw [Paired.length h, List.length_map]
def jP (t : Tr) : Bool := decide (Vablda.kindOf t = 45) || (decide (Vablda.kindOf t = 14) && decide ((Vablda.partsOf t).length = 2))
def yk (A : Ad) : Sp := sp1 fun a H Q _ => ∃ F t, Same F H /\ TreeAt A.tree F a t /\ Q (.bl (jP t)) H
def yl (A : Ad) (g : Tr -> List Flt) : Sp := sp1 fun a H Q _ => ∃ F t, Same F H /\ TreeAt A.tree F a t /\ Vp.wt t <= 1000000 /\ ∀ q H', Same H H' -> H q = none -> FlsAt H' q (g t) -> Q (.ref q) H'
def lN (t : Tr) : List Flt := Vablda.behind jP (Vablda.partsOf t) false
theorem qM (nm : Tr -> Bool) : ∀ (l : List Tr) (x : Tr) (s : Bool), Vablda.behind nm (l ++ [x]) s = Vablda.behind nm l s ++ (if (s || l.any nm) = true /\ nm x = false then [Vablda.fault Vablda.BEHIND x] else [])
 | [], x, s => by
   show (if s = true /\ nm x = false then _ else _) ++ [] = [] ++ _
   simp
 | y :: l, x, s => by
   show (if s = true /\ nm y = false then _ else _) ++ Vablda.behind nm (l ++ [x]) (s || nm y) = ((if s = true /\ nm y = false then _ else _) ++ Vablda.behind nm l (s || nm y)) ++ _
   rw [qM nm l x (s || nm y), List.any_cons, Bool.or_assoc, List.append_assoc]
theorem lB (nm : Tr -> Bool) : ∀ (l : List Tr) (s : Bool), (Vablda.behind nm l s).length <= l.length
 | [], s => by simp [Vablda.behind]
 | y :: l, s => by
   have := lB nm l (s || nm y)
   rw [Vablda.behind, List.length_append, List.length_cons]
   split <;> simp <;> omega
theorem TreesAt.get {C : Addr} {F : Hp} : ∀ {vs : List V} {ts : List Tr} {i : Nat} {v : V}, TreesAt C F vs ts -> vs[i]? = some v -> ∃ t, ts[i]? = some t /\ TreeAt C F v t
 | _, _, 0, _, .cons h _, e => by cases e; exact ⟨_, rfl, h⟩
 | _, _, i + 1, _, .cons _ h, e => TreesAt.get (i := i) h e
 | _, _, i, _, .nil, e => by simp at e
theorem TreeAt.flds {A : Ad} {F : Hp} {v : V} {t : Tr} (h : TreeAt A.tree F v t) : ∃ a dx dl pl vs, v = .ref a /\ F a = some (.ins A.tree dx (jT (Vablda.kindOf t) (Vablda.placeOf t) dl pl)) /\ F dl = some (.lst (bts (Vablda.bytesOf t))) /\ F pl = some (.lst vs) /\ TreesAt A.tree F vs (Vablda.partsOf t) := by
 cases h with
 | mk h1 h2 h3 h4 => exact ⟨_, _, _, _, _, rfl, h1, h2, h3, h4⟩
section
variable {P : Program} {w : World} {K : Frag} {mg : Str -> Option Value} {base : Heap} {A : Ad} {k k0 j : Nat}
abbrev f9 : Stmt := top 96
theorem nI : ai ["part"] ["part"] (ad f9) := by walk_at "sc"
theorem nP (T : Txt P w K mg A) (F : Fd K mg "has_giving" f9)   : Fn P w K mg base "has_giving" (k + 1) ["part"] (yk A) := by
 refine Fn.of1 F nI (fun _ _ _ _ _ _ _ => rfl) fun g cdv Ar outer s H a Q E hr h => ⟨_, (ac (aj (vh (cP bP (q_f T.cl_tree T.na_tree_kind (q_v 0)) (q_g T.g_NAMED_ARG) (by first | exact bq _ (by decide) (by decide) | rfl)) (jm (tN (cP bP (q_f T.cl_tree T.na_tree_kind (q_v 0)) (q_g T.g_PARAM) (by first | exact bq _ (by decide) (by decide) | rfl)) (jm (cP bP (cy (x := "len") T.b_len (q_f T.cl_tree T.na_tree_parts (q_v 0))) ap (by first | exact bq _ (by decide) (by decide) | rfl)))))))), ?_⟩
 obtain ⟨F', t, hs, ht, q⟩ := h
 obtain ⟨a, dx, dl, pl, vs, rfl, h1, h2, h3, h4⟩ := ht.flds
 unfold jP at q
 walk_at "rd"
 refine ⟨dx, _, _, hs _ _ h1, rfl, ?_⟩
 dsimp only
 by_cases e1 : Vablda.kindOf t = 45
 ·rw [if_pos (by omega)]
  rw [decide_eq_true e1, Bool.true_or] at q
  exact q
 ·rw [if_neg (by omega)]
  rw [decide_eq_false e1, Bool.false_or] at q
  refine ⟨dx, _, _, hs _ _ h1, rfl, ?_⟩
  dsimp only
  by_cases e2 : Vablda.kindOf t = 14
  ·rw [if_pos (by omega)]
   rw [decide_eq_true e2, Bool.true_and] at q
   refine ⟨dx, _, _, hs _ _ h1, rfl, ?_⟩
   dsimp only
   refine ⟨_, .inl (.inl (hs _ _ h3)), ?_⟩
   rw [h4.len]
   have e : decide (((Vablda.partsOf t).length : Int) = 2) = decide ((Vablda.partsOf t).length = 2) := decide_eq_decide.mpr (by omega)
   rw [e]; exact q
  ·rw [if_neg (by omega)]
   rw [decide_eq_false e2, Bool.false_and] at q
   exact q
abbrev d5 : Stmt := top 95
theorem bw : ai ["tree", "found", "is_behind", "part"] ["tree"] (ad d5) := by walk_at "sc"
theorem kT (T : Txt P w K mg A) (F : Fd K mg "behind_faults" d5) (fV : Fn P w K mg base "has_giving" k ["part"] (yk A))  : Fn P w K mg base "behind_faults" (k + 1) ["tree"] (yl A lN) := by
 refine Fn.of1 F bw (fun _ _ _ _ _ _ _ => rfl) fun g cdv Ar outer s H a Q E hr h => ⟨_, (a9 (aq (i := 1) (aJ aa) bw.nd) (a9 (aq (i := 2) l8 bw.nd) (a9 (bp (iX PassesOwn.leaving rfl (fm (q_f T.cl_tree T.na_tree_parts (q_v 0))) (cO (i := 3) bw.nd rfl (Or.inl rfl)) (ac (aE (c6 (q_c fV hr ae (a8 (q_v 3) aa))) (ac (aq (i := 2) l8 bw.nd)) (ac (aE (c6 (q_v 2)) (ac (aA (cD (q_v 1) (fM (a8 (q_f T.cl_tree T.na_tree_place (q_v 3)) (a8 (q_g T.g_BEHIND) aa)))))) am)))))) (ac (aj (q_v 1)))))), ?_⟩
 obtain ⟨F', t, hs, ht, hpl, q⟩ := h
 obtain ⟨a, dx, dl, pl, vs, rfl, h1, h2, h3, h4⟩ := ht.flds
 walk_at "rd"
 refine ⟨by decide, fun p hp => ?_⟩
 have fp : F' p = none := hs.free hp
 have hlen := h4.len
 refine bo (fun σ H' => ∃ x y, σ = [some (.ref a), some (.ref p), x, y] /\ Same H H' /\ FlsAt H' p (lN t)) ⟨dx, _, _, (Same.upd hp) _ _ (hs _ _ h1), rfl, pl, rfl, ⟨_, .inl (.inl ((Same.upd hp) _ _ (hs _ _ h3)))⟩,
  gG (xs := vs) (fun i σ H' => ∃ y, σ = [some (.ref a), some (.ref p), some (.bl (((Vablda.partsOf t).take i).any jP)), y] /\ Same H H' /\ FlsAt H' p (Vablda.behind jP ((Vablda.partsOf t).take i) false)) ⟨none, rfl, Same.upd hp, _, af, .nil⟩ (fun i σ H' _ ⟨y, _, h, _⟩ => .inl (.inl (h _ _ (hs _ _ h3)))) ?_ (fun σ H' ⟨y, e1, e2, e3⟩ => ⟨_, y, e1, e2, by rw [hlen, List.take_length] at e3; exact e3⟩)⟩ ?_
 ·rintro i x σ H' hx ⟨y, rfl, hs2, vs2, hv2, hpr⟩
  obtain ⟨u, hu, hut⟩ := h4.get hx
  have hF2 : Same F' H' := hs.trans hs2
  rw [bG hu, qM, List.any_append, Bool.false_or]
  walk_at "rd"
  refine ⟨F', u, hF2, hut, ?_⟩
  cases hg : jP u with
  | true =>
    refine bU ⟨some x, by simp [hg], hs2, vs2, hv2, ?_⟩
    rw [if_neg (fun z => by simp at z), List.append_nil]
    exact hpr
  | false =>
    refine c9 ?_
    cases hb : ((Vablda.partsOf t).take i).any jP with
    | false =>
      refine c9 ⟨some x, by simp [hg], hs2, vs2, hv2, ?_⟩
      rw [if_neg (fun z => by simp at z), List.append_nil]
      exact hpr
    | true =>
      obtain ⟨b, dx3, dl3, pl3, rfl, hb3⟩ := hut.kp
      refine bU ⟨⟨_, hv2⟩, dx3, _, _, hF2 _ _ hb3, rfl, (by rw [sizeLine_eq]; decide), fun c hc => ?_⟩
      have hv2' : upd H' c (.tup [.int (Vablda.placeOf u), .int 7]) p = some (.lst vs2) := by rw [al (az hv2 hc)]; exact hv2
      refine ⟨vs2, hv2', ?_, some (.ref b), by simp, (hs2.trans (Same.upd hc)).upd2 hp, _, af, ?_⟩
      ·rw [FlsAt.len hpr, sizeLine_eq]
       have := lB jP ((Vablda.partsOf t).take i) false
       rw [List.length_take] at this
       have := Vp.wt_parts t
       omega
      ·rw [if_pos (by simp), List.map_append]
       refine prs.snoc (f := pk (Vablda.fault Vablda.BEHIND u)) (hpr.keep fun d ys hd => ?_) ?_
       ·rw [al (oA hd hv2 (by intro z; cases z)), al (az hd hc)]; exact hd
       ·rw [al (fun z => by rw [z, hv2] at hc; cases hc), af]; rfl
 ·rintro σ H' ⟨x, y, rfl, hs2, hf⟩
  walk_at "rd"
  exact q p H' hs2 hp hf
end
end L2
namespace L2
open PySem PySem.Spec PyProof.Rows
theorem rH : ∀ (l : List Tr) (x : Tr) (s : List (List Nat)), Vablda.twice (l ++ [x]) s = Vablda.twice l s ++ (if ((l.map Vablda.bytesOf).reverse ++ s).contains (Vablda.bytesOf x) = true then [Vablda.fault Vablda.TWICE x] else [])
 | [], x, s => by
   show (if s.contains (Vablda.bytesOf x) = true then _ else _) ++ [] = [] ++ _
   simp
 | y :: l, x, s => by
   show (if s.contains (Vablda.bytesOf y) = true then _ else _) ++ Vablda.twice (l ++ [x]) (Vablda.bytesOf y :: s) = ((if s.contains (Vablda.bytesOf y) = true then _ else _) ++ Vablda.twice l (Vablda.bytesOf y :: s)) ++ _
   rw [rH l x, List.map_cons, List.reverse_cons, List.append_assoc, List.append_assoc, List.singleton_append]
theorem lJ : ∀ (l : List Tr) (s : List (List Nat)), (Vablda.twice l s).length <= l.length
 | [], s => by simp [Vablda.twice]
 | y :: l, s => by
   have := lJ l (Vablda.bytesOf y :: s)
   rw [Vablda.twice, List.length_append, List.length_cons]
   split <;> simp <;> omega
def xW (A : Ad) : Sp := sp1 fun a H Q _ => ∃ F p vs xs, a = .ref p /\ Same F H /\ H p = some (.lst vs) /\ TreesAt A.tree F vs xs /\ xs.length <= 1000000 /\ ∀ q H', Same H H' -> H q = none -> FlsAt H' q (Vablda.twice xs []) -> Q (.ref q) H'
def Keys (kvs : List (List Key × V)) (S : List (List Nat)) : Prop := kvs.length <= S.length /\ ∀ b : List Nat, (aZ kvs (gg b)).isSome = S.contains b
theorem Keys.put {kvs : List (List Key × V)} {S : List (List Nat)} (h : Keys kvs S) (b : List Nat) (v : V) : Keys (jq kvs (gg b) v) (b :: S) := by
 refine ⟨?_, fun c => ?_⟩
 ·have := h.1
  unfold jq
  split
  ·simp; omega
  ·simp; omega
 ·rw [v0, List.contains_cons]
  by_cases e : c = b
  ·subst e; simp
  ·have e2 : ¬ gg c = gg b := fun z => e (mZ z)
   rw [if_neg e2, h.2 c]
   simp [e]
section
variable {P : Program} {w : World} {K : Frag} {mg : Str -> Option Value} {base : Heap} {A : Ad} {k k0 j : Nat}
abbrev dC : Stmt := top 94
theorem bE : ai ["labels", "found", "known", "label", "name"] ["labels"] (ad dC) := by walk_at "sc"
theorem lw (T : Txt P w K mg A) (F : Fd K mg "twice_faults" dC)   : Fn P w K mg base "twice_faults" (k + 1) ["labels"] (xW A) := by
 refine Fn.of1 F bE (fun _ _ _ _ _ _ _ => rfl) fun g cdv Ar outer s H a Q E hr h => ⟨_, (a9 (aq (i := 1) (aJ aa) bE.nd) (a9 (aq (i := 2) vV bE.nd) (a9 (bp (iX PassesOwn.leaving rfl (fm (q_v 0)) (cO (i := 3) bE.nd rfl (Or.inl rfl)) (a9 (aq (i := 4) (o9 iD rfl T.b_tuple (by rfl) (a8 (q_f T.cl_tree T.na_tree_data (q_v 3)) aa)) bE.nd) (a9 (aE (B9 (zc (qC hr) (q_v 4) (q_v 2))) (ac (aA (cD (q_v 1) (fM (a8 (q_f T.cl_tree T.na_tree_place (q_v 3)) (a8 (q_g T.g_TWICE) aa)))))) am) (ac (xx (qC hr) (q_v 2) (q_v 4) l8 rfl)))))) (ac (aj (q_v 1)))))), ?_⟩
 obtain ⟨F', p, vs, xs, rfl, hs, hp, h4, hpl, q⟩ := h
 have hlen := h4.len
 walk_at "rd"
 refine ⟨by decide, fun f hf dd hdd => ?_⟩
 have hs1 : Same H (upd (upd H f (.lst [])) dd (.dT [])) := (Same.upd hf).trans (Same.upd hdd)
 have hfd : f ≠ dd := fun z => by rw [<- z, af] at hdd; cases hdd
 have ndd : H dd = none := (Same.upd hf).free hdd
 refine bo (fun σ H' => ∃ x y, σ = [some (.ref p), some (.ref f), some (.ref dd), x, y] /\ Same H H' /\ FlsAt H' f (Vablda.twice xs [])) ⟨p, rfl, ⟨_, .inl (.inl (hs1 _ _ hp))⟩,
  gG (xs := vs) (fun i σ H' => ∃ x y, σ = [some (.ref p), some (.ref f), some (.ref dd), x, y] /\ Same H H' /\ FlsAt H' f (Vablda.twice (xs.take i) []) /\ ∃ kvs, H' dd = some (.dT kvs) /\ Keys kvs ((xs.take i).map Vablda.bytesOf).reverse)
   ⟨none, none, rfl, hs1, ⟨_, by rw [al hfd, af], .nil⟩, [], af, by simp, fun b => rfl⟩ (fun i σ H' _ ⟨x, y, _, h, _⟩ => .inl (.inl (h _ _ hp))) ?_ (fun σ H' ⟨x, y, e1, e2, e3, _⟩ => ⟨x, y, e1, e2, by rw [hlen, List.take_length] at e3; exact e3⟩)⟩ ?_
 ·rintro i x σ H' hx ⟨x', y', rfl, hs2, ⟨vs2, hv2, hpr⟩, kvs, hkv, hK⟩
  obtain ⟨u, hu, hut⟩ := h4.get hx
  have hF2 : Same F' H' := hs.trans hs2
  obtain ⟨a, dx, dl, pl, ws, rfl, h1, h2, _, _⟩ := hut.flds
  rw [bG hu, rH, List.append_nil, List.map_append, List.reverse_append, List.map_singleton, List.reverse_singleton, List.singleton_append]
  walk_at "rd"
  refine ⟨dx, _, _, hF2 _ _ h1, rfl, ?_⟩
  refine ⟨dl, bts (Vablda.bytesOf u), rfl, .inl ⟨.inl (.inl (hF2 _ _ h2)), fun l hl => ?_⟩⟩
  have hs3 : Same H' (upd H' l (.tup (bts (Vablda.bytesOf u)))) := Same.upd hl
  have hkv3 := hs3 _ _ hkv
  have hl3 : upd H' l (.tup (bts (Vablda.bytesOf u))) l = some (.tup ((gg (Vablda.bytesOf u)).map kV)) := by rw [af, vB]
  have hi : i < vs.length := (List.getElem?_eq_some_iff.mp hx).1
  have klen : kvs.length < sizeLine := by
   have := hK.1
   rw [List.length_reverse, List.length_map, List.length_take] at this
   rw [sizeLine_eq]; omega
  have put : ∀ Hz, Hz l = some (.tup ((gg (Vablda.bytesOf u)).map kV)) -> Same H Hz -> FlsAt Hz f (Vablda.twice (xs.take i) [] ++ if ((xs.take i).map Vablda.bytesOf).reverse.contains (Vablda.bytesOf u) = true then [Vablda.fault Vablda.TWICE u] else []) -> Hz dd = some (.dT kvs) ->
    ∃ b H4, V.ref dd = V.ref b /\ DPut Hz b (V.ref l) (V.bl true) H4 /\ ∃ x y, [some (V.ref p), some (V.ref f), some (V.ref dd), some (V.ref a), some (V.ref l)] = [some (V.ref p), some (V.ref f), some (V.ref dd), x, y] /\ Same H H4 /\ FlsAt H4 f (Vablda.twice (xs.take i) [] ++ if ((xs.take i).map Vablda.bytesOf).reverse.contains (Vablda.bytesOf u) = true then [Vablda.fault Vablda.TWICE u] else []) /\ ∃ kvs, H4 dd = some (.dT kvs) /\ Keys kvs (Vablda.bytesOf u :: ((xs.take i).map Vablda.bytesOf).reverse) := fun Hz hz2 hz3 hz4 hz5 => by
   refine ⟨dd, _, rfl, DPut.t hz5 hz2 klen, _, _, rfl, hz3.upd2 ndd, ?_, _, af, hK.put _ _⟩
   obtain ⟨vz, hvz, hpz⟩ := hz4
   refine ⟨vz, by rw [al hfd]; exact hvz, hpz.keep fun c ys hc => ?_⟩
   rw [al (oA hc hz5 (by intro z; cases z))]; exact hc
  refine ⟨dd, _, rfl, DGet.t hkv3 hl3, _, rfl, ?_⟩
  rw [hK.2]
  have hv3 := hs3 _ _ hv2
  have hpr3 : prs ((Vablda.twice (xs.take i) []).map pk) (upd H' l (.tup (bts (Vablda.bytesOf u)))) vs2 := hpr.keep fun c ys hc => hs3 _ _ hc
  cases hc : ((xs.take i).map Vablda.bytesOf).reverse.contains (Vablda.bytesOf u) with
  | false =>
    rw [hc] at put
    refine c9 (put _ hl3 (hs2.trans hs3) ⟨vs2, hv3, ?_⟩ hkv3)
    rw [if_neg (by decide), List.append_nil]
    exact hpr3
  | true =>
    rw [hc] at put
    refine bU ⟨⟨_, hv3⟩, dx, _, _, hs3 _ _ (hF2 _ _ h1), rfl, (by rw [sizeLine_eq]; decide), fun c hcn => ?_⟩
    have hs4 := Same.upd (o := .tup [.int (Vablda.placeOf u), .int 6]) hcn
    have fl : f ≠ l := az hv2 hl
    have fc : f ≠ c := az hv3 hcn
    have df : dd ≠ f := hfd.symm
    have nf : H f = none := hf
    refine ⟨vs2, by rw [al fc]; exact hv3, ?_, ?_⟩
    ·rw [FlsAt.len hpr, sizeLine_eq]
     have := lJ (xs.take i) []
     rw [List.length_take] at this
     omega
    ·have hs5 : Same H (upd (upd (upd H' l (.tup (bts (Vablda.bytesOf u)))) c (.tup [.int (Vablda.placeOf u), .int 6])) f (.lst (vs2 ++ [.ref c]))) := (hs2.trans (hs3.trans hs4)).upd2 hf
     have kt : ∀ d ys, (upd (upd H' l (.tup (bts (Vablda.bytesOf u)))) c (.tup [.int (Vablda.placeOf u), .int 6])) d = some (.tup ys) -> (upd (upd (upd H' l (.tup (bts (Vablda.bytesOf u)))) c (.tup [.int (Vablda.placeOf u), .int 6])) f (.lst (vs2 ++ [.ref c]))) d = some (.tup ys) := fun d ys hd => by
      rw [al (oA hd (hs4 _ _ hv3) (by intro z; cases z))]; exact hd
     refine put _ (kt _ _ (hs4 _ _ hl3)) hs5 ⟨_, af, ?_⟩ (by rw [al df]; exact hs4 _ _ hkv3)
     ·rw [if_pos rfl, List.map_append]
      exact prs.snoc (f := pk (Vablda.fault Vablda.TWICE u)) (hpr3.keep fun d ys hd => kt _ _ (hs4 _ _ hd)) (kt _ _ af)
 ·rintro σ H' ⟨x, y, rfl, hs2, hf2⟩
  walk_at "rd"
  exact q f H' hs2 hf hf2
end
end L2
namespace L2
open PySem PySem.Spec PyProof.Rows
def rP (t : Tr) (b d : Bool) : Bool := if Vablda.kindOf t = 11 ∨ Vablda.kindOf t = 12 then b else if Vablda.kindOf t = 18 then !d else decide (Vablda.kindOf t = 19) && (b && !d)
def w9 (A : Ad) : Sp := sp3 fun a b c H Q _ => ∃ F t ib id, Same F H /\ TreeAt A.tree F a t /\ b = .bl ib /\ c = .bl id /\ Q (.bl (rP t ib id)) H
def qV (K : Frag) (A : Ad) : Sp := sp1 fun a H Q E => ∃ (p : Addr) (f : Flt), a = .ref p /\ H p = some (.tup [.int (f.place : Nat), .int (f.kind : Nat)]) /\ (f.kind = 5 ∨ f.kind = 6 ∨ f.kind = 7) /\ Fl K A.R E f.kind f.place
def k9 (t : Tr) : List Tr := if Vablda.kindOf t = 10 then (Vablda.partsOf t).flatMap Vablda.givenBy else if Vablda.kindOf t = 13 ∨ Vablda.kindOf t = 50 then (Vablda.partsOf t).map Vablda.firstPart else if Vablda.kindOf t = 65 then ((Vablda.partsOf t).filter Vablda.isArgNamed).map Vablda.firstPart else []
structure vD (t : Tr) : Prop where
 file : Vablda.kindOf t = 10 -> ∀ s ∈ Vablda.partsOf t, (Vablda.kindOf s = 12 ∨ Vablda.kindOf s = 19) -> Vablda.partsOf s ≠ []
 rec_ : Vablda.kindOf t = 13 ∨ Vablda.kindOf t = 50 -> ∀ s ∈ Vablda.partsOf t, Vablda.partsOf s ≠ []
 call : Vablda.kindOf t = 65 -> ∀ s ∈ Vablda.partsOf t, Vablda.kindOf s = 45 -> Vablda.partsOf s ≠ []
def xZ (A : Ad) (pre : Tr -> Prop) (g : Tr -> List Tr) : Sp := sp1 fun a H Q _ => ∃ F t, Same F H /\ TreeAt A.tree F a t /\ vD t /\ pre t /\ Vp.wt t <= 1000000 /\ ∀ q vs H', Same H H' -> H' q = some (.lst vs) -> TreesAt A.tree F vs (g t) -> Q (.ref q) H'
def sV (A : Ad) (pre : Tr -> Prop) (g : Tr -> List Tr) : Sp := sp1 fun a H Q _ => ∃ F t, Same F H /\ TreeAt A.tree F a t /\ pre t /\ ∀ q vs H', Same H H' -> H q = none -> H' q = some (.lst vs) -> TreesAt A.tree F vs (g t) -> Q (.ref q) H'
theorem qK {A : Ad} {F : Hp} {v : V} {t : Tr} (h : TreeAt A.tree F v t) (hne : Vablda.partsOf t ≠ []) : ∃ a dx dl pl ws w0, v = .ref a /\ F a = some (.ins A.tree dx (jT (Vablda.kindOf t) (Vablda.placeOf t) dl pl)) /\ F pl = some (.lst ws) /\ ws[0]? = some w0 /\ TreeAt A.tree F w0 (Vablda.firstPart t) := by
 obtain ⟨a, dx, dl, pl, ws, rfl, h1, h2, h3, h4⟩ := h.flds
 unfold Vablda.firstPart
 cases e : Vablda.partsOf t with
 | nil => exact absurd e hne
 | cons x l =>
   rw [e] at h4
   cases h4 with
   | cons g1 g2 => exact ⟨a, dx, dl, pl, _, _, rfl, h1, h3, rfl, g1⟩
theorem vM (ws : List V) : mS ws (some 1) none = ws.drop 1 := by
 unfold mS
 have := HT.sIx_nat ws.length 0 1
 rw [show (some (1 : Int)) = some ((1 : Nat) : Int) from rfl, this, HT.sIx_none]
 by_cases h : 1 <= ws.length
 ·rw [Nat.min_eq_left h, List.take_of_length_le (by rw [List.length_drop]; omega)]
 ·have : ws = [] := List.length_eq_zero_iff.mp (by omega)
  subst this; rfl
theorem TreesAt.drop1 {C : Addr} {F : Hp} {vs : List V} {ts : List Tr} (h : TreesAt C F vs ts) : TreesAt C F (vs.drop 1) (ts.drop 1) := by
 cases h with
 | nil => exact .nil
 | cons h1 h2 => exact h2
theorem vC (ws : List V) : mS ws none (some 1) = ws.take 1 := by
 unfold mS
 have := HT.sIx_nat ws.length ws.length 1
 rw [show (some (1 : Int)) = some ((1 : Nat) : Int) from rfl, this, HT.sIx_none]
 by_cases h : 1 <= ws.length
 ·rw [Nat.min_eq_left h]; rfl
 ·have : ws = [] := List.length_eq_zero_iff.mp (by omega)
  subst this; rfl
theorem TreesAt.take {C : Addr} {F : Hp} : ∀ {vs : List V} {ts : List Tr} (i : Nat), TreesAt C F vs ts -> TreesAt C F (vs.take i) (ts.take i)
 | _, _, 0, _ => .nil
 | _, _, i + 1, .nil => .nil
 | _, _, i + 1, .cons h1 h2 => .cons h1 (h2.take i)
theorem kG : ∀ l : List Tr, (l.flatMap Vablda.givenBy).length <= Vp.cnt l
 | [] => by simp
 | t :: l => by
   have := kG l
   rw [List.flatMap_cons, List.length_append, Vp.cnt_cons]
   have : (Vablda.givenBy t).length <= (Vablda.partsOf t).length := by
    unfold Vablda.givenBy
    split
    ·rw [List.length_drop]; omega
    ·split
     ·rw [List.length_take]; omega
     ·simp
   omega
theorem qv : ∀ (l : List Tr) (i : Nat), Vp.cnt (l.take i) <= Vp.cnt l
 | [], i => by simp
 | t :: l, 0 => by simp [Vp.cnt]
 | t :: l, i + 1 => by rw [List.take_succ_cons, Vp.cnt_cons, Vp.cnt_cons]; have := qv l i; omega
section
variable {P : Program} {w : World} {K : Frag} {mg : Str -> Option Value} {base : Heap} {A : Ad} {k k0 j : Nat}
abbrev dB : Stmt := top 92
theorem ll : ai ["tree", "in_block", "in_def"] ["tree", "in_block", "in_def"] (ad dB) := by walk_at "sc"
theorem lp (T : Txt P w K mg A) (F : Fd K mg "is_misplaced" dB)   : Fn P w K mg base "is_misplaced" (k + 1) ["tree", "in_block", "in_def"] (w9 A) := by
 refine Fn.of3 F ll (fun _ _ _ _ _ _ _ _ _ => rfl) fun g cdv Ar outer s H a b c Q E hr h => ⟨_, (a9 (aE (f6 (lh (b7 bP (q_f T.cl_tree T.na_tree_kind (q_v 0)) (q_g T.g_LOAD)) (gA (b7 bP (q_f T.cl_tree T.na_tree_kind (q_v 0)) (q_g T.g_DEF)))).pt) (ac (aj (q_v 1))) am) (a9 (aE (b7 bP (q_f T.cl_tree T.na_tree_kind (q_v 0)) (q_g T.g_RETURN)) (ac (aj (yp (q_v 2)))) am) (ac (aj (tN (cP bP (q_f T.cl_tree T.na_tree_kind (q_v 0)) (q_g T.g_GIVING) (by first | exact bq _ (by decide) (by decide) | rfl)) (tN (q_v 1) (jm (yp (q_v 2))))))))), ?_⟩
 obtain ⟨F', t, ib, id, hs, ht, rfl, rfl, q⟩ := h
 obtain ⟨a, dx, dl, pl, rfl, h1⟩ := ht.kp
 unfold rP at q
 walk_at "rd"
 refine eS (decide (Vablda.kindOf t = 11 ∨ Vablda.kindOf t = 12)) ?_ ?_
 ·walk_at "rd"
  refine ⟨dx, _, _, hs _ _ h1, rfl, ?_⟩
  dsimp only
  by_cases e1 : Vablda.kindOf t = 11
  ·rw [if_pos (by omega), decide_eq_true (.inl e1)]; exact ⟨rfl, by trivial⟩
  ·rw [if_neg (by omega)]
   refine ⟨dx, _, _, hs _ _ h1, rfl, decide_eq_decide.mpr (by omega), by trivial⟩
 ·by_cases e1 : Vablda.kindOf t = 11 ∨ Vablda.kindOf t = 12
  ·rw [if_pos e1] at q
   rw [decide_eq_true e1, if_pos rfl]; exact q
  ·rw [if_neg e1] at q
   rw [decide_eq_false e1, if_neg (by decide)]
   refine ⟨dx, _, _, hs _ _ h1, rfl, ?_⟩
   dsimp only
   by_cases e2 : Vablda.kindOf t = 18
   ·rw [if_pos e2] at q
    rw [if_pos (by omega)]; exact q
   ·rw [if_neg e2] at q
    rw [if_neg (by omega)]
    refine ⟨dx, _, _, hs _ _ h1, rfl, ?_⟩
    dsimp only
    by_cases e3 : Vablda.kindOf t = 19
    ·rw [if_pos (by omega)]
     rw [decide_eq_true e3, Bool.true_and] at q
     cases ib with
     | true => exact bU q
     | false => exact c9 q
    ·rw [if_neg (by omega)]
     rw [decide_eq_false e3, Bool.false_and] at q
     exact q
abbrev n9 : Stmt := top 90
theorem ui : ai ["fault"] ["fault"] (ad n9) := by walk_at "sc"
theorem u7 (T : Txt P w K mg A) (F : Fd K mg "refuse" n9) (fG : Rz P w K mg base "PlaceFault" A.R k 5) (fo : Rz P w K mg base "TwiceFault" A.R k 6) (eD : Rz P w K mg base "BehindFault" A.R k 7)  : Fn P w K mg base "refuse" (k + 1) ["fault"] (qV K A) := by
 refine Fn.of1 F ui (fun _ _ _ _ _ _ _ => rfl) fun g cdv Ar outer s H a Q E hr h => ⟨_, (a9 (aE (b7 bP (gb (q_v 0) ap) (q_g T.g_PLACE)) (ac (mG fG hr bc (gb (q_v 0) ap))) am) (a9 (aE (b7 bP (gb (q_v 0) ap) (q_g T.g_TWICE)) (ac (mG fo hr bc (gb (q_v 0) ap))) am) (ac (mG eD hr bc (gb (q_v 0) ap))))), ?_⟩
 obtain ⟨p, f, rfl, hp, hk, q⟩ := h
 have sq : SqT K H p [.int (f.place : Nat), .int (f.kind : Nat)] := .inl (.inl hp)
 walk_at "rd"
 refine ⟨_, _, sq, c7 (j := 1) rfl rfl, ?_⟩
 dsimp only
 by_cases e5 : f.kind = 5
 ·rw [if_pos (by omega)]
  refine ⟨_, _, sq, c7 (j := 0) rfl rfl, ?_⟩
  rw [e5] at q; exact q
 ·rw [if_neg (by omega)]
  refine ⟨_, _, sq, c7 (j := 1) rfl rfl, ?_⟩
  dsimp only
  by_cases e6 : f.kind = 6
  ·rw [if_pos (by omega)]
   refine ⟨_, _, sq, c7 (j := 0) rfl rfl, ?_⟩
   rw [e6] at q; exact q
  ·rw [if_neg (by omega)]
   refine ⟨_, _, sq, c7 (j := 0) rfl rfl, ?_⟩
   rw [show f.kind = 7 by omega] at q; exact q
abbrev cH : Stmt := top 38
theorem jW : ai ["stmt"] ["stmt"] (ad cH) := by walk_at "sc"
theorem kf (T : Txt P w K mg A) (F : Fd K mg "names_given_by" cH)   : Fn P w K mg base "names_given_by" (k + 1) ["stmt"] (sV A (fun _ => True) Vablda.givenBy) := by
 refine Fn.of1 F jW (fun _ _ _ _ _ _ _ => rfl) fun g cdv Ar outer s H a Q E hr h => ⟨_, (a9 (aE (b7 bP (q_f T.cl_tree T.na_tree_kind (q_v 0)) (q_g T.g_LOAD)) (ac (aj (ie kh (q_f T.cl_tree T.na_tree_parts (q_v 0)) (dU ap) sY))) am) (a9 (aE (f6 (lh (b7 bP (q_f T.cl_tree T.na_tree_kind (q_v 0)) (q_g T.g_DEF)) (gA (b7 bP (q_f T.cl_tree T.na_tree_kind (q_v 0)) (q_g T.g_GIVING)))).pt) (ac (aj (ie kh (q_f T.cl_tree T.na_tree_parts (q_v 0)) sY (dU ap)))) am) (ac (aj (aJ aa))))), ?_⟩
 obtain ⟨F', u, hs, ht, hwt, q⟩ := h
 obtain ⟨b, dxb, dlb, plb, ws, rfl, g1, g2, g3, g4⟩ := ht.flds
 unfold Vablda.givenBy at q
 walk_at "rd"
 refine ⟨dxb, _, _, hs _ _ g1, rfl, ?_⟩
 dsimp only
 by_cases e1 : Vablda.kindOf u = 11
 ·rw [if_pos e1] at q
  rw [if_pos (by omega)]
  refine ⟨dxb, _, _, hs _ _ g1, rfl, 1, rfl, plb, ws, rfl, .inl (.inl (hs _ _ g3)), fun c hc => ?_⟩
  rw [vM]
  exact q c _ _ (Same.upd hc) hc af g4.drop1
 ·rw [if_neg e1] at q
  rw [if_neg (by omega)]
  refine eS (decide (Vablda.kindOf u = 12 ∨ Vablda.kindOf u = 19)) ?_ ?_
  ·walk_at "rd"
   refine ⟨dxb, _, _, hs _ _ g1, rfl, ?_⟩
   dsimp only
   by_cases e2 : Vablda.kindOf u = 12
   ·rw [if_pos (by omega), decide_eq_true (.inl e2)]; exact ⟨rfl, by trivial⟩
   ·rw [if_neg (by omega)]
    refine ⟨dxb, _, _, hs _ _ g1, rfl, decide_eq_decide.mpr (by omega), by trivial⟩
  ·by_cases e2 : Vablda.kindOf u = 12 ∨ Vablda.kindOf u = 19
   ·rw [if_pos e2] at q
    rw [decide_eq_true e2, if_pos rfl]
    refine ⟨dxb, _, _, hs _ _ g1, rfl, 1, rfl, plb, ws, rfl, .inl (.inl (hs _ _ g3)), fun c hc => ?_⟩
    rw [vC]
    exact q c _ _ (Same.upd hc) hc af (g4.take 1)
   ·rw [if_neg e2] at q
    rw [decide_eq_false e2, if_neg (by decide)]
    exact ⟨by decide, fun c hc => q c _ _ (Same.upd hc) hc af .nil⟩
abbrev bJ : Stmt := top 37
theorem bx : ai ["file_tree", "names", "stmt"] ["file_tree"] (ad bJ) := by walk_at "sc"
theorem fP (T : Txt P w K mg A) (F : Fd K mg "names_at_file_level" bJ) (cJ : Fn P w K mg base "names_given_by" k ["stmt"] (sV A (fun _ => True) Vablda.givenBy))  : Fn P w K mg base "names_at_file_level" (k + 1) ["file_tree"] (sV A (fun t => Vp.wt t <= 1000000) fun t => (Vablda.partsOf t).flatMap Vablda.givenBy) := by
 refine Fn.of1 F bx (fun _ _ _ _ _ _ _ => rfl) fun g cdv Ar outer s H a Q E hr h => ⟨_, (a9 (aq (i := 1) (aJ aa) bx.nd) (a9 (bp (iX PassesOwn.leaving rfl (fm (q_f T.cl_tree T.na_tree_parts (q_v 0))) (cO (i := 2) bx.nd rfl (Or.inl rfl)) (ac (aA (vS (q_v 1) (q_c cJ hr ae (a8 (q_v 2) aa))))))) (ac (aj (q_v 1))))), ?_⟩
 obtain ⟨F', t, hs, ht, hwt, q⟩ := h
 obtain ⟨a, dx, dl, pl, vs, rfl, h1, h2, h3, h4⟩ := ht.flds
 have hlen := h4.len
 have hb := Vp.wt_parts t
 walk_at "rd"
 refine ⟨by decide, fun p hp => ?_⟩
 have fp : F' p = none := hs.free hp
 refine bo (fun σ H' => ∃ x acc, σ = [some (.ref a), some (.ref p), x] /\ Same H H' /\ H' p = some (.lst acc) /\ TreesAt A.tree F' acc ((Vablda.partsOf t).flatMap Vablda.givenBy)) ⟨dx, _, _, (Same.upd hp) _ _ (hs _ _ h1), rfl, pl, rfl, ⟨_, .inl (.inl ((Same.upd hp) _ _ (hs _ _ h3)))⟩,
  gG (xs := vs) (fun i σ H' => ∃ x acc, σ = [some (.ref a), some (.ref p), x] /\ Same H H' /\ H' p = some (.lst acc) /\ TreesAt A.tree F' acc (((Vablda.partsOf t).take i).flatMap Vablda.givenBy)) ⟨none, [], rfl, Same.upd hp, af, .nil⟩ (fun i σ H' _ ⟨x, acc, _, h, _⟩ => .inl (.inl (h _ _ (hs _ _ h3)))) ?_ (fun σ H' ⟨x, acc, e1, e2, e3, e4⟩ => ⟨x, acc, e1, e2, e3, by rw [hlen, List.take_length] at e4; exact e4⟩)⟩ ?_
 ·rintro i x σ H' hx ⟨x', acc, rfl, hs2, hacc, htr⟩
  obtain ⟨u, hu, hut⟩ := h4.get hx
  have hF2 : Same F' H' := hs.trans hs2
  have htot : (((Vablda.partsOf t).take (i + 1)).flatMap Vablda.givenBy).length <= 1000000 := by
   have := kG ((Vablda.partsOf t).take (i + 1))
   have := qv (Vablda.partsOf t) (i + 1)
   omega
  rw [bG hu, List.flatMap_append, List.flatMap_singleton] at htot ⊢
  rw [List.length_append] at htot
  walk_at "rd"
  refine ⟨⟨_, hacc⟩, F', u, hF2, hut, trivial, fun c ws H2 s3 _ hc htl => ?_⟩
  refine ⟨acc, ws, s3 _ _ hacc, hc, ?_, _, _, rfl, (hs2.trans s3).upd2 hp, af, htr.app htl⟩
  rw [htr.len, htl.len, sizeLine_eq]; omega
 ·rintro σ H' ⟨x, acc, rfl, hs2, hacc, htr⟩
  walk_at "rd"
  exact q p acc H' hs2 hp hacc htr
end
end L2
namespace L2
open PySem PySem.Spec PyProof.Rows
section
variable {P : Program} {w : World} {K : Frag} {mg : Str -> Option Value} {base : Heap} {A : Ad} {k k0 j : Nat}
abbrev ik : Stmt := top 93
theorem cA : ai ["tree", "part", "arg"] ["tree"] (ad ik) := by walk_at "sc"
theorem pA (T : Txt P w K mg A) (F : Fd K mg "labels_of" ik) (bN : Fn P w K mg base "names_at_file_level" k ["file_tree"] (sV A (fun t => Vp.wt t <= 1000000) fun t => (Vablda.partsOf t).flatMap Vablda.givenBy))  : Fn P w K mg base "labels_of" (k + 1) ["tree"] (xZ A (fun _ => True) k9) := by
 refine Fn.of1 F cA (fun _ _ _ _ _ _ _ => rfl) fun g cdv Ar outer s H a Q E hr h => ⟨_, (a9 (aE (b7 bP (q_f T.cl_tree T.na_tree_kind (q_v 0)) (q_g T.g_FILE)) (ac (aj (q_c bN hr ae (a8 (q_v 0) aa)))) am) (a9 (aE (f6 (lh (b7 bP (q_f T.cl_tree T.na_tree_kind (q_v 0)) (q_g T.g_PARAMS)) (gA (b7 bP (q_f T.cl_tree T.na_tree_kind (q_v 0)) (q_g T.g_RECORD)))).pt) (ac (aj (vH (te := tOp (oIx K) (cF A.tree "parts" (cV 1)) (tC (V.int 0))) rfl cA.nd (fm (q_f T.cl_tree T.na_tree_parts (q_v 0))) (lQ (own := [("part", 1)]) rfl) (fun _ _ _ _ _ => cO (i := 1) cA.nd rfl (Or.inl rfl) (.inr rfl)) (fun _ _ _ _ _ => sW) (fun _ _ _ _ _ => eX (q_f T.cl_tree T.na_tree_parts (q_v 1)) ap)))) am) (a9 (aE (b7 bP (q_f T.cl_tree T.na_tree_kind (q_v 0)) (q_g T.g_CALL)) (ac (aj (vH (te := tOp (oIx K) (cF A.tree "parts" (cV 2)) (tC (V.int 0))) rfl cA.nd (fm (q_f T.cl_tree T.na_tree_parts (q_v 0))) (lQ (own := [("arg", 2)]) rfl) (fun _ _ _ _ _ => cO (i := 2) cA.nd rfl (Or.inl rfl) (.inr rfl)) (fun _ _ _ _ _ => xr (b7 bP (q_f T.cl_tree T.na_tree_kind (q_v 2)) (q_g T.g_NAMED_ARG))) (fun _ _ _ _ _ => eX (q_f T.cl_tree T.na_tree_parts (q_v 2)) ap)))) am) (ac (aj (aJ aa)))))), ?_⟩
 obtain ⟨F', t, hs, ht, hok, _, hwt, q⟩ := h
 obtain ⟨a, dx, dl, pl, vs, rfl, h1, h2, h3, h4⟩ := ht.flds
 have hlen := h4.len
 have hb := Vp.wt_parts t
 unfold k9 at q
 walk_at "rd"
 refine ⟨dx, _, _, hs _ _ h1, rfl, ?_⟩
 dsimp only
 by_cases e1 : Vablda.kindOf t = 10
 ·rw [if_pos (by omega)]
  simp only [if_pos e1] at q
  exact ⟨F', t, hs, ht, hwt, fun q' vs' H' s' _ => q q' vs' H' s'⟩
 rw [if_neg (by omega)]
 simp only [if_neg e1] at q
 refine eS (decide (Vablda.kindOf t = 13 ∨ Vablda.kindOf t = 50)) ?_ ?_
 ·walk_at "rd"
  refine ⟨dx, _, _, hs _ _ h1, rfl, ?_⟩
  dsimp only
  by_cases e2 : Vablda.kindOf t = 13
  ·rw [if_pos (by omega), decide_eq_true (.inl e2)]; exact ⟨rfl, by trivial⟩
  ·rw [if_neg (by omega)]
   refine ⟨dx, _, _, hs _ _ h1, rfl, decide_eq_decide.mpr (by omega), by trivial⟩
 by_cases e2 : Vablda.kindOf t = 13 ∨ Vablda.kindOf t = 50
 ·rw [decide_eq_true e2, if_pos rfl]
  simp only [if_pos e2] at q
  refine ⟨dx, _, _, hs _ _ h1, rfl, pl, rfl, ⟨_, .inl (.inl (hs _ _ h3))⟩, fun D hD => Exists.intro (fun i m H' => m = vs.length - i /\ i <= vs.length /\ ∃ acc, H' = upd H D (.lst acc) /\ TreesAt A.tree F' acc (((Vablda.partsOf t).take i).map Vablda.firstPart)) ⟨⟨_, rfl, Nat.zero_le _, [], rfl, .nil⟩, ?_⟩⟩
  rintro i m _ ⟨rfl, hi, acc, rfl, htr⟩
  have s1 : ∀ l, Same H (upd H D (.lst l)) := fun l => Same.upd hD
  by_cases hlt : i < vs.length
  ·refine .inr ⟨⟨vs, vs[i], .inl (.inl (s1 _ _ _ (hs _ _ h3))), by simp [hlt]⟩, fun H' => ∃ acc, H' = upd H D (.lst acc) /\ TreesAt A.tree F' acc (((Vablda.partsOf t).take (i + 1)).map Vablda.firstPart), fun H' e => ⟨vs.length - (i + 1), by omega, rfl, hlt, e⟩, ?_⟩
   rintro x _ ⟨rfl, hy⟩
   have hx := hy vs (.inl (.inl (s1 _ _ _ (hs _ _ h3))))
   obtain ⟨u, hu, hut⟩ := h4.get hx
   obtain ⟨b, dxb, dlb, plb, ws, w0, rfl, k1, k3, k4, k5⟩ := qK hut (hok.rec_ e2 u (List.mem_of_getElem? hu))
   refine ⟨rfl, ?_⟩
   refine ⟨dxb, _, _, s1 _ _ _ (hs _ _ k1), rfl, ws, w0, .inl (.inl (s1 _ _ _ (hs _ _ k3))), c7 (j := 0) rfl k4, acc, af, ?_, acc ++ [w0], dX, ?_⟩
   ·rw [htr.len, List.length_map, List.length_take, sizeLine_eq]; omega
   ·rw [bG hu, List.map_append]
    exact htr.snoc k5
  ·have ei : i = vs.length := by omega
   refine .inl ⟨⟨vs, .inl (.inl (s1 _ _ _ (hs _ _ h3))), by omega⟩, ?_⟩
   rw [ei, hlen, List.take_length] at htr
   exact q D acc _ (s1 _) af htr
 rw [decide_eq_false e2, if_neg (by decide)]
 simp only [if_neg e2] at q
 refine ⟨dx, _, _, hs _ _ h1, rfl, ?_⟩
 dsimp only
 by_cases e3 : Vablda.kindOf t = 65
 ·rw [if_pos (by omega)]
  simp only [if_pos e3] at q
  refine ⟨dx, _, _, hs _ _ h1, rfl, pl, rfl, ⟨_, .inl (.inl (hs _ _ h3))⟩, fun D hD => Exists.intro (fun i m H' => m = vs.length - i /\ i <= vs.length /\ ∃ acc, H' = upd H D (.lst acc) /\ TreesAt A.tree F' acc ((((Vablda.partsOf t).take i).filter Vablda.isArgNamed).map Vablda.firstPart)) ⟨⟨_, rfl, Nat.zero_le _, [], rfl, .nil⟩, ?_⟩⟩
  rintro i m _ ⟨rfl, hi, acc, rfl, htr⟩
  have s1 : ∀ l, Same H (upd H D (.lst l)) := fun l => Same.upd hD
  by_cases hlt : i < vs.length
  ·refine .inr ⟨⟨vs, vs[i], .inl (.inl (s1 _ _ _ (hs _ _ h3))), by simp [hlt]⟩, fun H' => ∃ acc, H' = upd H D (.lst acc) /\ TreesAt A.tree F' acc ((((Vablda.partsOf t).take (i + 1)).filter Vablda.isArgNamed).map Vablda.firstPart), fun H' e => ⟨vs.length - (i + 1), by omega, rfl, hlt, e⟩, ?_⟩
   rintro x _ ⟨rfl, hy⟩
   have hx := hy vs (.inl (.inl (s1 _ _ _ (hs _ _ h3))))
   obtain ⟨u, hu, hut⟩ := h4.get hx
   obtain ⟨b, dxb, dlb, plb, rfl, g1⟩ := hut.kp
   refine ⟨rfl, ?_⟩
   refine ⟨dxb, _, _, s1 _ _ _ (hs _ _ g1), rfl, ?_⟩
   rw [bG hu, List.filter_append, List.map_append]
   show if decide ((Vablda.kindOf u : Int) = 45) = true then _ else _
   by_cases e4 : Vablda.kindOf u = 45
   ·have hn : Vablda.isArgNamed u = true := by unfold Vablda.isArgNamed; rw [e4]; rfl
    rw [decide_eq_true (show (Vablda.kindOf u : Int) = 45 by omega), if_pos rfl]
    obtain ⟨_, _, _, pl5, ws, w0, ea, k1, k3, k4, k5⟩ := qK hut (hok.call e3 u (List.mem_of_getElem? hu) e4)
    cases ea
    refine ⟨_, _, _, s1 _ _ _ (hs _ _ k1), rfl, ws, w0, .inl (.inl (s1 _ _ _ (hs _ _ k3))), c7 (j := 0) rfl k4, acc, af, ?_, acc ++ [w0], dX, ?_⟩
    ·rw [htr.len, List.length_map, sizeLine_eq]
     have := List.length_filter_le Vablda.isArgNamed ((Vablda.partsOf t).take i)
     rw [List.length_take] at this
     omega
    ·simp only [List.filter_cons, hn, if_true, List.filter_nil, List.map_cons, List.map_nil]
     exact htr.snoc k5
   ·have hn : Vablda.isArgNamed u = false := by unfold Vablda.isArgNamed; simp [e4]
    rw [decide_eq_false (show ¬ (Vablda.kindOf u : Int) = 45 by omega), if_neg (by decide)]
    refine ⟨acc, rfl, ?_⟩
    simp only [List.filter_cons, hn, if_false, Bool.false_eq_true, List.filter_nil, List.map_nil, List.append_nil]
    exact htr
  ·have ei : i = vs.length := by omega
   refine .inl ⟨⟨vs, .inl (.inl (s1 _ _ _ (hs _ _ h3))), by omega⟩, ?_⟩
   rw [ei, hlen, List.take_length] at htr
   exact q D acc _ (s1 _) af htr
 ·rw [if_neg (by omega)]
  simp only [if_neg e3] at q
  refine ⟨by decide, fun D hD => q D [] _ (Same.upd hD) af .nil⟩
end
end L2
namespace L2
open Vablda (kindOf partsOf placeOf)
def iW (b d : Bool) (t : Tr) : List Flt := (if rP t b d = true then [Vablda.fault Vablda.PLACE t] else []) ++ (Vablda.twice (k9 t) [] ++ lN t)
theorem kR {f g : Tr -> Bool} : ∀ {l : List Tr} {s : Bool}, (∀ x ∈ l, f x = g x) -> Vablda.behind f l s = Vablda.behind g l s
 | [], _, _ => rfl
 | x :: l, s, h => by
   have e := h x (List.mem_cons.mpr (.inl rfl))
   rw [Vablda.behind, Vablda.behind, e, kR fun y hy => h y (List.mem_cons.mpr (.inr hy))]
theorem ma {f : Tr -> Bool} : ∀ {l : List Tr}, (∀ x ∈ l, f x = false) -> Vablda.behind f l false = []
 | [], _ => rfl
 | x :: l, h => by
   have e := h x (List.mem_cons.mpr (.inl rfl))
   rw [Vablda.behind, e, Bool.or_false, ma fun y hy => h y (List.mem_cons.mpr (.inr hy))]
   rfl
theorem jI {t : Tr} (h : Vp.Ok t) : ∀ x ∈ partsOf t, Vp.Ok x := by
 cases h with
 | leaf _ => intro x hx; simp [partsOf] at hx
 | node _ h => exact h
theorem sC {t : Tr} (h : Vp.Ok t) : kindOf t ≠ 10 /\ (kindOf t = 13 -> ∀ x ∈ partsOf t, kindOf x = 14) /\ (kindOf t ≠ 13 -> ∀ x ∈ partsOf t, kindOf x ≠ 14) /\ (kindOf t ≠ 65 -> ∀ x ∈ partsOf t, kindOf x ≠ 45) /\ (kindOf t = 50 -> ∀ x ∈ partsOf t, kindOf x = 51) /\
  (kindOf t = 14 -> (partsOf t).length = 1 ∨ (partsOf t).length = 2) /\ (kindOf t = 45 ∨ kindOf t = 51 ∨ kindOf t = 12 ∨ kindOf t = 19 -> partsOf t ≠ []) := by
 cases h with
 | leaf h =>
   rename_i k b p
   refine ⟨by show k ≠ 10; omega, fun _ x hx => by simp [partsOf] at hx, fun _ x hx => by simp [partsOf] at hx, fun _ x hx => by simp [partsOf] at hx, fun _ x hx => by simp [partsOf] at hx, fun e => ?_, fun e => ?_⟩
   ·have e : k = 14 := e; omega
   ·have e : k = 45 ∨ k = 51 ∨ k = 12 ∨ k = 19 := e; omega
 | node h _ => exact ⟨Nat.ne_of_gt h.k10, h.k13, h.n13, h.n65, h.k50, h.k14, h.ne⟩
theorem B4 {t : Tr} (h : Vp.Ok t) : vD t := by
 obtain ⟨h10, h13, n13, n65, h50, h14, hne⟩ := sC h
 refine ⟨fun e => absurd e h10, fun e s hs => ?_, fun _ s hs e => (sC (jI h s hs)).2.2.2.2.2.2 (.inl e)⟩
 have os := sC (jI h s hs)
 rcases e with e | e
 ·rcases os.2.2.2.2.2.1 (h13 e s hs) with z | z <;> (intro y; rw [y] at z; simp at z)
 ·exact os.2.2.2.2.2.2 (.inr (.inl (h50 e s hs)))
theorem xh {t : Tr} (h : Vp.Ok t) : lN t = if kindOf t = 13 then Vablda.behind Vablda.hasDefault (partsOf t) false else if kindOf t = 65 then Vablda.behind Vablda.isArgNamed (partsOf t) false else [] := by
 obtain ⟨h10, h13, n13, n65, h50, h14, hne⟩ := sC h
 unfold lN
 by_cases e1 : kindOf t = 13
 ·rw [if_pos e1]
  refine kR fun x hx => ?_
  have hk := h13 e1 x hx
  have hl := (sC (jI h x hx)).2.2.2.2.2.1 hk
  unfold jP Vablda.hasDefault
  rw [decide_eq_false (show ¬ kindOf x = 45 by omega), decide_eq_true hk, Bool.false_or, Bool.true_and]
  exact decide_eq_decide.mpr (by omega)
 ·rw [if_neg e1]
  by_cases e2 : kindOf t = 65
  ·rw [if_pos e2]
   refine kR fun x hx => ?_
   have hk := n13 e1 x hx
   unfold jP Vablda.isArgNamed
   rw [decide_eq_false hk, Bool.false_and, Bool.or_false]
   rw [Bool.eq_iff_iff]; simp
  ·rw [if_neg e2]
   refine ma fun x hx => ?_
   unfold jP
   rw [decide_eq_false (n13 e1 x hx), decide_eq_false (n65 e2 x hx)]; rfl
theorem zU {t : Tr} (h : Vp.Ok t) (b d : Bool) : ∀ x, x ∈ iW b d t ↔ x ∈ Vablda.ownFaults b d t := by
 have h10 := (sC h).1
 intro x
 unfold iW
 rw [xh h]
 unfold Vablda.ownFaults rP k9
 simp only [if_neg h10]
 generalize hk : kindOf t = k at *
 by_cases e1 : k = 11 ∨ k = 12
 ·have n1 : ¬ k = 13 := by omega
  have n2 : ¬ k = 18 := by omega
  have n3 : ¬ k = 19 := by omega
  have n4 : ¬ k = 50 := by omega
  have n5 : ¬ k = 65 := by omega
  have n6 : ¬ (k = 13 ∨ k = 50) := by omega
  cases b <;> simp [e1, n1, n2, n3, n4, n5, Vablda.twice]
 by_cases e2 : k = 18
 ·subst e2
  cases d <;> simp [Vablda.twice]
 by_cases e3 : k = 19
 ·subst e3
  cases b <;> cases d <;> simp [Vablda.twice]
 by_cases e4 : k = 13
 ·subst e4
  simp
 by_cases e5 : k = 50
 ·subst e5
  simp
 by_cases e6 : k = 65
 ·subst e6
  simp
 simp [e1, e2, e3, e4, e5, e6, Vablda.twice]
theorem jJ : ∀ (n m : Nat) (b d : Bool) (t : Tr), Vp.dep t <= n -> Vp.dep t <= m -> Vablda.faultsIn n b d t = Vablda.faultsIn m b d t
 | 0, m, b, d, t, h, _ => by
   cases t with
   | leaf k x p => simp [Vp.dep] at h
   | node k l p => simp [Vp.dep] at h
 | n + 1, 0, b, d, t, _, h => by
   cases t with
   | leaf k x p => simp [Vp.dep] at h
   | node k l p => simp [Vp.dep] at h
 | n + 1, m + 1, b, d, t, h1, h2 => by
   rw [Vablda.faultsIn, Vablda.faultsIn]
   have e : ∀ x ∈ partsOf t, Vablda.faultsIn n (b || kindOf t == 15) (d || kindOf t == 12) x = Vablda.faultsIn m (b || kindOf t == 15) (d || kindOf t == 12) x := fun x hx => by
    cases t with
    | leaf k y p => simp [partsOf] at hx
    | node k l p =>
      have := Vp.dep_mem (l := l) hx
      rw [Vp.dep] at h1 h2
      exact jJ n m _ _ x (by omega) (by omega)
   congr 1
   rw [List.flatMap_def, List.flatMap_def, List.map_congr_left e]
def zm (b d : Bool) (t : Tr) : List Flt := Vablda.faultsIn (Vp.dep t) b d t
def Fa (b d : Bool) (t : Tr) (x : Flt) : Prop := x ∈ iW b d t ∨ ∃ p ∈ partsOf t, x ∈ zm (b || kindOf t == 15) (d || kindOf t == 12) p
theorem vA {t : Tr} (h : Vp.Ok t) (b d : Bool) (x : Flt) : Fa b d t x ↔ x ∈ zm b d t := by
 unfold Fa zm
 rw [zU h]
 have hd : ∃ n, Vp.dep t = n + 1 := by
  cases t with
  | leaf k y p => exact ⟨0, by simp [Vp.dep]⟩
  | node k l p => exact ⟨Vp.depL l, by rw [Vp.dep]; omega⟩
 obtain ⟨n, hn⟩ := hd
 have hp : ∀ p ∈ partsOf t, Vp.dep p <= n := fun p hp => by
  cases t with
  | leaf k y p => simp [partsOf] at hp
  | node k l p' =>
    have := Vp.dep_mem (l := l) hp
    rw [Vp.dep] at hn; omega
 rw [hn, Vablda.faultsIn, List.mem_append, List.mem_flatMap]
 constructor
 ·rintro (h | ⟨p, h1, h2⟩)
  ·exact .inl h
  ·exact .inr ⟨p, h1, by rw [jJ n (Vp.dep p) _ _ p (hp p h1) (Nat.le_refl _)]; exact h2⟩
 ·rintro (h | ⟨p, h1, h2⟩)
  ·exact .inl h
  ·exact .inr ⟨p, h1, by rw [jJ n (Vp.dep p) _ _ p (hp p h1) (Nat.le_refl _)] at h2; exact h2⟩
theorem xg {l : List Tr} (h : ∀ x ∈ l, Vp.T 157 x) (x : Flt) : Fa false false (.node 10 l 0) x ↔ x ∈ Vablda.fileFaults (.node 10 l 0) := by
 have hg : lN (.node 10 l 0) = [] := ma fun y hy => by
  have := (h y hy).ke
  unfold jP
  rw [decide_eq_false this.1, decide_eq_false this.2]; rfl
 have ho : Vablda.ownFaults false false (.node 10 l 0) = [] := by simp [Vablda.ownFaults, Vablda.kindOf]
 unfold Fa iW Vablda.fileFaults
 rw [hg]
 have e1 : rP (.node 10 l 0) false false = false := rfl
 have e2 : k9 (.node 10 l 0) = l.flatMap Vablda.givenBy := rfl
 rw [e1, e2, if_neg (by decide), List.nil_append, List.append_nil, List.mem_append]
 refine or_congr Iff.rfl ?_
 rw [show Vablda.FAR = 299 + 1 from rfl, Vablda.faultsIn, ho, List.nil_append, List.mem_flatMap]
 constructor
 ·rintro ⟨p, h1, h2⟩
  exact ⟨p, h1, by rw [jJ 299 (Vp.dep p) _ _ p (Nat.le_trans (h p h1).de (by decide)) (Nat.le_refl _)]; exact h2⟩
 ·rintro ⟨p, h1, h2⟩
  exact ⟨p, h1, by rw [jJ 299 (Vp.dep p) _ _ p (Nat.le_trans (h p h1).de (by decide)) (Nat.le_refl _)] at h2; exact h2⟩
theorem pI (t : Tr) : (k9 t).length <= (partsOf t).length + Vp.cnt (partsOf t) := by
 unfold k9
 split
 ·have := kG (partsOf t); omega
 ·split
  ·rw [List.length_map]; omega
  ·split
   ·rw [List.length_map]
    have := List.length_filter_le Vablda.isArgNamed (partsOf t)
    omega
   ·simp
theorem xA (b d : Bool) (t : Tr) : (iW b d t).length + Vp.wtL (partsOf t) <= Vp.wt t := by
 have h1 := lJ (k9 t) []
 have h2 := pI t
 have h3 := lB jP (partsOf t) false
 have h4 := Vp.wt_parts t
 unfold iW lN
 rw [List.length_append, List.length_append]
 split <;> simp <;> omega
def ux (x : Flt) : Prop := x.kind = 5 ∨ x.kind = 6 ∨ x.kind = 7
theorem yb : ∀ {l : List Tr} {s : List (List Nat)} {x : Flt}, x ∈ Vablda.twice l s -> ux x
 | [], s, x, h => by simp [Vablda.twice] at h
 | y :: l, s, x, h => by
   rw [Vablda.twice, List.mem_append] at h
   rcases h with h | h
   ·split at h
    ·rw [List.mem_singleton] at h; subst h; exact .inr (.inl rfl)
    ·simp at h
   ·exact yb h
theorem xN {f : Tr -> Bool} : ∀ {l : List Tr} {s : Bool} {x : Flt}, x ∈ Vablda.behind f l s -> ux x
 | [], s, x, h => by simp [Vablda.behind] at h
 | y :: l, s, x, h => by
   rw [Vablda.behind, List.mem_append] at h
   rcases h with h | h
   ·split at h
    ·rw [List.mem_singleton] at h; subst h; exact .inr (.inr rfl)
    ·simp at h
   ·exact xN h
theorem BD {b d : Bool} {t : Tr} {x : Flt} (h : x ∈ iW b d t) : ux x := by
 unfold iW at h
 rcases List.mem_append.mp h with h | h
 ·split at h
  ·rw [List.mem_singleton] at h; subst h; exact .inl rfl
  ·simp at h
 ·rcases List.mem_append.mp h with h | h
  ·exact yb h
  ·exact xN h
theorem k8 : ∀ {l : List Flt}, Vablda.soonest l = none -> l = []
 | [], _ => rfl
 | x :: r, h => by
   rw [Vablda.soonest] at h
   split at h <;> cases h
theorem uh (x y : Flt) : Vablda.sooner x y = cN (pk x) (pk y) := by
 unfold Vablda.sooner cN pk
 rw [Bool.eq_iff_iff]
 simp
 omega
theorem jF : ∀ {l : List Flt} {e : Flt}, Vablda.soonest l = some e -> e ∈ l /\ ∀ x ∈ l, cN (pk x) (pk e) = false
 | [], e, h => by cases h
 | y :: r, e, h => by
   rw [Vablda.soonest] at h
   cases q : Vablda.soonest r with
   | none =>
     rw [q] at h
     cases h
     rw [k8 q]
     exact ⟨by simp, fun x hx => by rw [List.mem_singleton.mp hx]; exact decide_eq_false (by omega)⟩
   | some z =>
     rw [q] at h
     obtain ⟨i1, i2⟩ := jF q
     have h : (if Vablda.sooner z y = true then z else y) = e := Option.some.inj h
     rw [uh] at h
     by_cases c : cN (pk z) (pk y) = true
     ·rw [if_pos c] at h
      subst h
      refine ⟨List.mem_cons.mpr (.inr i1), fun x hx => ?_⟩
      rcases List.mem_cons.mp hx with rfl | hx
      ·have c := of_decide_eq_true c
       exact decide_eq_false (by omega)
      ·exact i2 x hx
     ·rw [if_neg c] at h
      subst h
      refine ⟨List.mem_cons.mpr (.inl rfl), fun x hx => ?_⟩
      rcases List.mem_cons.mp hx with rfl | hx
      ·exact decide_eq_false (by omega)
      ·have c := of_decide_eq_false (Bool.eq_false_iff.mpr c)
       have g := of_decide_eq_false (i2 x hx)
       exact decide_eq_false (by omega)
theorem B6 {x y : Flt} (h1 : cN (pk x) (pk y) = false) (h2 : cN (pk y) (pk x) = false) : x = y := by
 have h1 := of_decide_eq_false h1
 have h2 := of_decide_eq_false h2
 obtain ⟨kx, px⟩ := x
 obtain ⟨ky, py⟩ := y
 simp only [pk] at h1 h2
 have e1 : px = py := by omega
 have e2 : kx = ky := by omega
 rw [e1, e2]
end L2
namespace L2
open PySem PySem.Spec PyProof.Rows
abbrev Ent := Tr × Bool × Bool
def Wk (A : Ad) (F H : Hp) (vs : List V) (es : List Ent) : Prop := Paired (fun v (e : Ent) => ∃ a tv, v = V.ref a /\ H a = some (.tup [tv, .bl e.2.1, .bl e.2.2]) /\ TreeAt A.tree F tv e.1) vs es
theorem Wk.keep {A : Ad} {F H H' : Hp} {vs : List V} {es : List Ent} (h : Wk A F H vs es) (e : ∀ a ys, H a = some (.tup ys) -> H' a = some (.tup ys)) : Wk A F H' vs es := Paired.mapP h fun _ _ ⟨a, tv, h1, h2, h3⟩ => ⟨a, tv, h1, e _ _ h2, h3⟩
theorem Paired.last {α β : Type} {R : α -> β -> Prop} : ∀ {l : List α} {m : List β}, Paired R l m -> m ≠ [] -> ∃ l' x m' y, l = l' ++ [x] /\ m = m' ++ [y] /\ Paired R l' m' /\ R x y
 | _, _, .nil, h => absurd rfl h
 | [x], [y], .cons h .nil, _ => ⟨[], x, [], y, rfl, rfl, .nil, h⟩
 | x :: _, y :: _, .cons h (.cons h2 t), _ => by
   obtain ⟨l', x', m', y', e1, e2, p, r⟩ := Paired.last (.cons h2 t) (by simp)
   exact ⟨x :: l', x', y :: m', y', by rw [e1]; rfl, by rw [e2]; rfl, .cons h p, r⟩
structure Ws (A : Ad) (H0 F H : Hp) (f wk : Addr) (fs : List Flt) (es : List Ent) : Prop where
 same : Same H0 H
 fnd : FlsAt H f fs
 wrk : ∃ vs, H wk = some (.lst vs) /\ Wk A F H vs es
 nf : H0 f = none
 nw : H0 wk = none
 ne : f ≠ wk
section
variable {A : Ad} {H0 F H H' : Hp} {f wk : Addr} {fs gs : List Flt} {es : List Ent}
theorem Ws.step (s : Ws A H0 F H f wk fs es) (e : Same H H') : Ws A H0 F H' f wk fs es := by
 obtain ⟨vs, h1, h2⟩ := s.fnd
 obtain ⟨ws, h3, h4⟩ := s.wrk
 exact ⟨s.same.trans e, ⟨vs, e _ _ h1, h2.keep fun a ys h => e _ _ h⟩, ⟨ws, e _ _ h3, h4.keep fun a ys h => e _ _ h⟩, s.nf, s.nw, s.ne⟩
theorem dg {p : Addr} {vs ws : List V} (h : H p = some (.lst vs)) : ∀ a ys, H a = some (.tup ys) -> upd H p (.lst ws) a = some (.tup ys) := fun a ys e => by rw [al (oA e h (by intro z; cases z))]; exact e
theorem Ws.add (s : Ws A H0 F H f wk fs es) {vs : List V} (h : prs (gs.map pk) H vs) : Ws A H0 F (upd H f (.lst vs)) f wk gs es := by
 obtain ⟨us, h1, h2⟩ := s.fnd
 obtain ⟨ws, h3, h4⟩ := s.wrk
 exact ⟨s.same.upd2 s.nf, ⟨vs, af, h.keep (dg h1)⟩, ⟨ws, by rw [al s.ne.symm]; exact h3, h4.keep (dg h1)⟩, s.nf, s.nw, s.ne⟩
theorem Ws.work (s : Ws A H0 F H f wk fs es) {vs : List V} {ds : List Ent} (h : Wk A F H vs ds) : Ws A H0 F (upd H wk (.lst vs)) f wk fs ds := by
 obtain ⟨us, h1, h2⟩ := s.fnd
 obtain ⟨ws, h3, h4⟩ := s.wrk
 exact ⟨s.same.upd2 s.nw, ⟨us, by rw [al s.ne]; exact h1, h2.keep (dg h3)⟩, ⟨vs, af, h.keep (dg h3)⟩, s.nf, s.nw, s.ne⟩
theorem tI {fs gs : List (Int × Int)} {H : Hp} : ∀ {vs ws : List V}, prs fs H vs -> prs gs H ws -> prs (fs ++ gs) H (vs ++ ws) := fun {vs ws} h1 h2 => by
 unfold prs at *
 induction h1 with
 | nil => exact h2
 | cons h t ih => exact .cons h ih
end
def wts (es : List Ent) : Nat := (es.map fun e => Vp.wt e.1).foldr (· + ·) 0
theorem k6 : ∀ (a b : List Ent), wts (a ++ b) = wts a + wts b
 | [], b => by simp [wts]
 | e :: a, b => by
   have := k6 a b
   show Vp.wt e.1 + wts (a ++ b) = Vp.wt e.1 + wts a + wts b
   omega
theorem oJ (b d : Bool) : ∀ l : List Tr, wts (l.map fun p => (p, b, d)) = Vp.wtL l
 | [] => by simp [wts, Vp.wtL]
 | t :: l => by
   have := oJ b d l
   rw [Vp.wtL]
   show Vp.wt t + wts (l.map fun p => (p, b, d)) = _
   omega
theorem tU : ∀ es : List Ent, es.length <= wts es
 | [] => by simp
 | e :: es => by
   have := tU es
   have := Vp.wt_pos e.1
   show es.length + 1 <= Vp.wt e.1 + wts es
   omega
def EOk (e : Ent) : Prop := vD e.1 /\ ∀ p ∈ Vablda.partsOf e.1, Vp.Ok p
def jw (t : Tr) : Prop := ∃ l, t = .node 10 l 0 /\ ∀ x ∈ l, Vp.T 157 x
theorem B3 {t : Tr} (h : jw t) : EOk (t, false, false) := by
 obtain ⟨l, rfl, h⟩ := h
 exact ⟨⟨fun _ s hs e => (sC (h s hs).ok).2.2.2.2.2.2 (e.elim (fun z => .inr (.inr (.inl z))) fun z => .inr (.inr (.inr z))), fun e => absurd e (show ¬ ((10 : Nat) = 13 ∨ (10 : Nat) = 50) by decide), fun e => absurd e (show ¬ (10 : Nat) = 65 by decide)⟩, fun p hp => (h p hp).ok⟩
def yo (A : Ad) : Sp := sp1 fun a H Q _ => ∃ F t, Same F H /\ TreeAt A.tree F a t /\ jw t /\ Vp.wt t <= 1000000 /\ ∀ q fs H', Same H H' -> FlsAt H' q fs -> (∀ x, x ∈ fs ↔ x ∈ Vablda.fileFaults t) -> (∀ x ∈ fs, ux x) -> Q (.ref q) H'
section
variable {P : Program} {w : World} {K : Frag} {mg : Str -> Option Value} {base : Heap} {A : Ad} {k k0 j : Nat}
abbrev gX : Stmt := top 91
theorem bj : ai ["file_tree", "found", "work", "entry", "tree", "in_block", "in_def", "part"] ["file_tree"] (ad gX) := by walk_at "sc"
theorem pK (T : Txt P w K mg A) (F : Fd K mg "faults_in" gX) (dL : Fn P w K mg base "is_misplaced" k ["tree", "in_block", "in_def"] (w9 A)) (dE : Fn P w K mg base "twice_faults" k ["labels"] (xW A)) (hU : Fn P w K mg base "labels_of" k ["tree"] (xZ A (fun _ => True) k9)) (cZ : Fn P w K mg base "behind_faults" k ["tree"] (yl A lN))  : Fn P w K mg base "faults_in" (k + 1) ["file_tree"] (yo A) := by
 refine Fn.of1 F bj (fun _ _ _ _ _ _ _ => rfl) fun g cdv Ar outer s H a Q E hr h => ⟨_, (a9 (aq (i := 1) (aJ aa) bj.nd) (a9 (aq (i := 2) (aJ (a8 (fM (a8 (q_v 0) (a8 l8 (a8 l8 aa)))) aa)) bj.nd) (a9 (bp (bv PassesOwn.leaving (b7 qU (cy (x := "len") T.b_len (q_v 2)) ap) (a9 (aq (i := 3) (ya (q_v 2)) bj.nd) (a9 (aq (i := 4) (gb (q_v 3) ap) bj.nd) (a9 (aq (i := 5) (gb (q_v 3) ap) bj.nd) (a9 (aq (i := 6) (gb (q_v 3) ap) bj.nd) (a9 (bp (aE (c6 (q_c dL hr ae (a8 (q_v 4) (a8 (q_v 5) (a8 (q_v 6) aa))))) (ac (aA (cD (q_v 1) (fM (a8 (q_f T.cl_tree T.na_tree_place (q_v 4)) (a8 (q_g T.g_PLACE) aa)))))) am)) (a9 (aA (vS (q_v 1) (q_c dE hr ae (a8 (q_c hU hr ae (a8 (q_v 4) aa)) aa)))) (a9 (aA (vS (q_v 1) (q_c cZ hr ae (a8 (q_v 4) aa)))) (ac (bp (iX PassesOwn.leaving rfl (fm (q_f T.cl_tree T.na_tree_parts (q_v 4))) (cO (i := 7) bj.nd rfl (Or.inl rfl)) (ac (aA (cD (q_v 2) (fM (a8 (q_v 7) (a8 (vh (q_v 5) (jm (cP bP (q_f T.cl_tree T.na_tree_kind (q_v 4)) (q_g T.g_BLOCK) (by first | exact bq _ (by decide) (by decide) | rfl)))) (a8 (vh (q_v 6) (jm (cP bP (q_f T.cl_tree T.na_tree_kind (q_v 4)) (q_g T.g_DEF) (by first | exact bq _ (by decide) (by decide) | rfl)))) aa))))))))))))))))))) (ac (aj (q_v 1)))))), ?_⟩
 obtain ⟨F', t, hs, ht, hok, hwt, q⟩ := h
 walk_at "rd"
 refine ⟨by decide, fun f hf => ⟨(by rw [sizeLine_eq]; decide), fun c hc => ⟨(by rw [sizeLine_eq]; decide), fun wk hwk => ?_⟩⟩⟩
 have s1 : Same H (upd H f (.lst [])) := Same.upd hf
 have s2 := Same.upd (o := .tup [a, .bl false, .bl false]) hc
 have s3 := Same.upd (o := .lst [.ref c]) hwk
 have hfc : upd (upd H f (.lst [])) c (.tup [a, .bl false, .bl false]) f = some (.lst []) := s2 _ _ af
 have hfw : f ≠ wk := az hfc hwk
 have W0 : Ws A H F' (upd (upd (upd H f (.lst [])) c (.tup [a, .bl false, .bl false])) wk (.lst [.ref c])) f wk [] [(t, false, false)] :=
  ⟨(s1.trans s2).trans s3, ⟨[], s3 _ _ hfc, .nil⟩, ⟨_, af, .cons ⟨c, a, rfl, s3 _ _ af, ht⟩ .nil⟩, hf, (s1.trans s2).free hwk, hfw⟩
 refine bo (fun σ H' => ∃ fs e x4 x5 x6 x7, σ = [some a, some (.ref f), some (.ref wk), e, x4, x5, x6, x7] /\ Ws A H F' H' f wk fs [] /\ (∀ x, x ∈ fs ↔ x ∈ Vablda.fileFaults t) /\ ∀ x ∈ fs, ux x)
  (Exists.intro (fun m σ H' => ∃ fs es e x4 x5 x6 x7, σ = [some a, some (.ref f), some (.ref wk), e, x4, x5, x6, x7] /\ m = wts es /\ Ws A H F' H' f wk fs es /\ fs.length + wts es <= 1000000 /\ (∀ x, (x ∈ fs ∨ ∃ e ∈ es, Fa e.2.1 e.2.2 e.1 x) ↔ x ∈ Vablda.fileFaults t) /\ (∀ x ∈ fs, ux x) /\ ∀ e ∈ es, EOk e)
   ⟨⟨_, [], [(t, false, false)], none, none, none, none, none, rfl, rfl, W0, by simp [wts]; exact hwt, fun x => ?_, by simp, fun e he => by rw [List.mem_singleton.mp he]; exact B3 hok⟩, ?_⟩) ?_
 ·obtain ⟨l, rfl, h⟩ := hok
  rw [<- xg h x]
  simp
 ·rintro m σ H1 ⟨fs, es, e, x4, x5, x6, x7, rfl, rfl, W1, hlen, hmem, hk5, hes⟩
  obtain ⟨wv, hwv, hWk⟩ := W1.wrk
  walk_at "rd"
  refine ⟨_, .inl (.inl hwv), ?_⟩
  have hl2 : wv.length = es.length := Paired.length hWk
  by_cases he : es = []
  ·subst he
   rw [if_neg (by rw [hl2]; simp)]
   refine ⟨fs, e, x4, x5, x6, x7, by trivial, W1, fun x => ?_, hk5⟩
   rw [<- hmem x]; simp
  ·rw [if_pos (by rw [hl2]; have : es.length ≠ 0 := fun z => he (List.length_eq_zero_iff.mp z); omega)]
   obtain ⟨wv', y, es', en, rfl, rfl, hWk', ⟨ea, tv, rfl, hea, htv⟩⟩ := Paired.last hWk he
   obtain ⟨u, ib, id⟩ := en
   have W2 : Ws A H F' (upd H1 wk (.lst wv')) f wk fs es' := W1.work hWk'
   have hF : ∀ {Hz : Hp} {fs : List Flt} {es : List Ent}, Ws A H F' Hz f wk fs es -> Same F' Hz := fun W => hs.trans W.same
   have hea2 : upd H1 wk (.lst wv') ea = some (.tup [tv, .bl ib, .bl id]) := dg hwv _ _ hea
   have sq : SqT K (upd H1 wk (.lst wv')) ea [tv, .bl ib, .bl id] := .inl (.inl hea2)
   have hEn : EOk (u, ib, id) := hes _ (by simp)
   have hle := xA ib id u
   rw [k6] at hlen
   have hw1 : wts [(u, ib, id)] = Vp.wt u := by simp [wts]
   rw [hw1] at hlen
   obtain ⟨ua, udx, udl, upl, uvs, rfl, g1, g2, g3, g4⟩ := htv.flds
   have gl := g4.len
   refine ⟨_, fun _ _ h => h, wv', _, hwv, _, _, sq, c7 (j := 0) rfl rfl, _, _, sq, c7 (j := 1) rfl rfl, _, _, sq, c7 (j := 2) rfl rfl, ?_⟩
   generalize hpf : (if rP u ib id = true then [Vablda.fault Vablda.PLACE u] else []) = pf
   have hpl : pf.length <= 1 := by rw [<- hpf]; split <;> simp
   refine bo (fun σ H' => σ = [some a, some (.ref f), some (.ref wk), some (.ref ea), some (.ref ua), some (.bl ib), some (.bl id), x7] /\ Ws A H F' H' f wk (fs ++ pf) es') ?_ ?_
   ·walk_at "rd"
    refine ⟨F', u, ib, id, hF W2, htv, rfl, rfl, ?_⟩
    cases hm : rP u ib id with
    | false =>
      rw [hm, if_neg (by decide)] at hpf
      refine c9 ⟨by trivial, ?_⟩
      rw [<- hpf, List.append_nil]; exact W2
    | true =>
      rw [hm, if_pos rfl] at hpf
      obtain ⟨fv, hfv, hfp⟩ := W2.fnd
      refine bU ⟨⟨_, hfv⟩, udx, _, _, hF W2 _ _ g1, rfl, (by rw [sizeLine_eq]; decide), fun b hb => ?_⟩
      have W3 := W2.step (Same.upd (o := .tup [.int (Vablda.placeOf u), .int 5]) hb)
      obtain ⟨fv3, hfv3, hfp3⟩ := W3.fnd
      refine ⟨fv3, hfv3, ?_, by trivial, ?_⟩
      ·rw [FlsAt.len hfp3, sizeLine_eq]; omega
      ·rw [<- hpf]
       refine W3.add ?_
       rw [List.map_append]
       exact prs.snoc (f := pk (Vablda.fault Vablda.PLACE u)) hfp3 af
   ·rintro σ H4 ⟨rfl, W4⟩
    walk_at "rd"
    obtain ⟨fv4, hfv4, hfp4⟩ := W4.fnd
    refine ⟨⟨_, hfv4⟩, F', u, hF W4, htv, hEn.1, trivial, by omega, fun ql lv H5 s5 hql hlab => ?_⟩
    have W5 := W4.step s5
    refine ⟨F', ql, lv, k9 u, rfl, hF W5, hql, hlab, by have := pI u; have := Vp.wt_parts u; omega, fun qt H6 s6 nqt ht6 => ?_⟩
    have W6 := W5.step s6
    obtain ⟨fv6, hfv6, hfp6⟩ := W6.fnd
    obtain ⟨tv6, htv6, htp6⟩ := ht6
    have hl1 := lJ (k9 u) []
    have hl2 := pI u
    have hl3 := lB jP (Vablda.partsOf u) false
    have hl4 := Vp.wt_parts u
    refine ⟨fv6, tv6, hfv6, htv6, ?_, ?_⟩
    ·rw [FlsAt.len hfp6, FlsAt.len htp6, sizeLine_eq, List.length_append]; omega
    have W7 : Ws A H F' (upd H6 f (.lst (fv6 ++ tv6))) f wk ((fs ++ pf) ++ Vablda.twice (k9 u) []) es' := W6.add (by rw [List.map_append]; exact tI hfp6 htp6)
    obtain ⟨fv7, hfv7, hfp7⟩ := W7.fnd
    refine ⟨⟨_, hfv7⟩, F', u, hF W7, htv, by omega, fun qb H8 s8 nqb ht8 => ?_⟩
    have W8 := W7.step s8
    obtain ⟨fv8, hfv8, hfp8⟩ := W8.fnd
    obtain ⟨tv8, htv8, htp8⟩ := ht8
    refine ⟨fv8, tv8, hfv8, htv8, ?_, ?_⟩
    ·have : (lN u).length <= (Vablda.partsOf u).length := hl3
     rw [FlsAt.len hfp8, FlsAt.len htp8, sizeLine_eq, List.length_append, List.length_append]; omega
    have W9 : Ws A H F' (upd H8 f (.lst (fv8 ++ tv8))) f wk (((fs ++ pf) ++ Vablda.twice (k9 u) []) ++ lN u) es' := W8.add (by rw [List.map_append]; exact tI hfp8 htp8)
    have hown : ((fs ++ pf) ++ Vablda.twice (k9 u) []) ++ lN u = fs ++ iW ib id u := by unfold iW; rw [hpf]; simp only [List.append_assoc]
    rw [hown] at W9
    generalize hb' : (ib || Vablda.kindOf u == 15) = b'
    generalize hd' : (id || Vablda.kindOf u == 12) = d'
    refine bo (fun σ H' => ∃ y, σ = [some a, some (.ref f), some (.ref wk), some (.ref ea), some (.ref ua), some (.bl ib), some (.bl id), y] /\ Ws A H F' H' f wk (fs ++ iW ib id u) (es' ++ (Vablda.partsOf u).map fun p => (p, b', d')))
     ⟨udx, _, _, hF W9 _ _ g1, rfl, upl, rfl, ⟨_, .inl (.inl (hF W9 _ _ g3))⟩, gG (xs := uvs) (fun i σ H' => ∃ y, σ = [some a, some (.ref f), some (.ref wk), some (.ref ea), some (.ref ua), some (.bl ib), some (.bl id), y] /\ Ws A H F' H' f wk (fs ++ iW ib id u) (es' ++ ((Vablda.partsOf u).take i).map fun p => (p, b', d')))
      ⟨_, rfl, by simpa using W9⟩ (fun i σ H' _ ⟨y, _, W⟩ => .inl (.inl (hF W _ _ g3))) ?_ (fun σ H' ⟨y, e1, e2⟩ => ⟨y, e1, by rw [gl, List.take_length] at e2; exact e2⟩)⟩ ?_
    ·rintro i x σ Hi hx ⟨y, rfl, Wi⟩
     obtain ⟨pt, hpt, hptt⟩ := g4.get hx
     have hi : i < uvs.length := (List.getElem?_eq_some_iff.mp hx).1
     obtain ⟨wi, hwi, hWi⟩ := Wi.wrk
     have hbk : (if ib = true then V.bl true else V.bl (decide ((Vablda.kindOf u : Int) = 15))) = V.bl b' := by
      rw [<- hb']; cases ib with
      | true => rfl
      | false => rw [if_neg (by decide), Bool.false_or]; congr 1; rw [Bool.eq_iff_iff]; simp; omega
     have hdk : (if id = true then V.bl true else V.bl (decide ((Vablda.kindOf u : Int) = 12))) = V.bl d' := by
      rw [<- hd']; cases id with
      | true => rfl
      | false => rw [if_neg (by decide), Bool.false_or]; congr 1; rw [Bool.eq_iff_iff]; simp; omega
     have fin : (3 : Nat) <= sizeLine /\ ∀ p, Hi p = none -> ∃ xs, upd Hi p (.tup [x, .bl b', .bl d']) wk = some (.lst xs) /\ xs.length < sizeLine /\ ∃ y, [some a, some (V.ref f), some (V.ref wk), some (V.ref ea), some (V.ref ua), some (V.bl ib), some (V.bl id), some x] = [some a, some (V.ref f), some (V.ref wk), some (V.ref ea), some (V.ref ua), some (V.bl ib), some (V.bl id), y] /\
       Ws A H F' (upd (upd Hi p (.tup [x, .bl b', .bl d'])) wk (.lst (xs ++ [.ref p]))) f wk (fs ++ iW ib id u) (es' ++ ((Vablda.partsOf u).take (i + 1)).map fun p => (p, b', d')) := by
      refine ⟨(by rw [sizeLine_eq]; decide), fun p hp => ?_⟩
      have Wj := Wi.step (Same.upd (o := .tup [x, .bl b', .bl d']) hp)
      obtain ⟨wj, hwj, hWj⟩ := Wj.wrk
      refine ⟨wj, hwj, ?_, _, rfl, ?_⟩
      ·rw [Paired.length hWj, List.length_append, List.length_map, List.length_take, sizeLine_eq]
       have := tU es'
       omega
      ·refine Wj.work ?_
       rw [bG hpt, List.map_append, <- List.append_assoc]
       exact Paired.snoc hWj ⟨p, x, rfl, af, hptt⟩
     walk_at "rd"
     refine ⟨⟨_, hwi⟩, ?_⟩
     have hkd : ∀ {Hq : Hp}, Same F' Hq -> Hq ua = some (.ins A.tree udx (jT (Vablda.kindOf u) (Vablda.placeOf u) udl upl)) := fun h => h _ _ g1
     cases ib with
     | true =>
       have e1 : V.bl b' = V.bl true := hbk.symm
       refine bU ?_
       cases id with
       | true =>
         have e2 : V.bl d' = V.bl true := hdk.symm
         rw [e1, e2] at fin
         exact bU fin
       | false =>
         have e2 : V.bl d' = V.bl (decide ((Vablda.kindOf u : Int) = 12)) := hdk.symm
         rw [e1, e2] at fin
         exact c9 ⟨udx, _, _, hkd (hF Wi), rfl, fin⟩
     | false =>
       have e1 : V.bl b' = V.bl (decide ((Vablda.kindOf u : Int) = 15)) := hbk.symm
       refine c9 ⟨udx, _, _, hkd (hF Wi), rfl, ?_⟩
       cases id with
       | true =>
         have e2 : V.bl d' = V.bl true := hdk.symm
         rw [e1, e2] at fin
         exact bU fin
       | false =>
         have e2 : V.bl d' = V.bl (decide ((Vablda.kindOf u : Int) = 12)) := hdk.symm
         rw [e1, e2] at fin
         exact c9 ⟨udx, _, _, hkd (hF Wi), rfl, fin⟩
    ·rintro σ Hj ⟨y, rfl, Wj⟩
     have hwp := oJ b' d' (Vablda.partsOf u)
     have hwpos := Vp.wt_parts u
     refine ⟨wts (es' ++ (Vablda.partsOf u).map fun p => (p, b', d')), ?_, fs ++ iW ib id u, _, _, _, _, _, _, rfl, rfl, Wj, ?_, fun x => ?_, fun x hx => ?_, fun e he => ?_⟩
     ·rw [k6, k6, hwp, hw1]; omega
     ·rw [k6, hwp, List.length_append]; omega
     ·rw [<- hmem x]
      have key : Fa ib id u x ↔ (x ∈ iW ib id u ∨ ∃ p ∈ Vablda.partsOf u, Fa b' d' p x) := by
       unfold Fa
       rw [hb', hd']
       refine or_congr Iff.rfl ⟨fun ⟨p, h1, h2⟩ => ⟨p, h1, (vA (hEn.2 p h1) b' d' x).mpr h2⟩, fun ⟨p, h1, h2⟩ => ⟨p, h1, (vA (hEn.2 p h1) b' d' x).mp h2⟩⟩
      constructor
      ·rintro (h | ⟨e, h1, h2⟩)
       ·rcases List.mem_append.mp h with h | h
        ·exact .inl h
        ·exact .inr ⟨(u, ib, id), by simp, key.mpr (.inl h)⟩
       ·rcases List.mem_append.mp h1 with h1 | h1
        ·exact .inr ⟨e, by simp [h1], h2⟩
        ·obtain ⟨p, hp, rfl⟩ := List.mem_map.mp h1
         exact .inr ⟨(u, ib, id), by simp, key.mpr (.inr ⟨p, hp, h2⟩)⟩
      ·rintro (h | ⟨e, h1, h2⟩)
       ·exact .inl (List.mem_append.mpr (.inl h))
       ·rcases List.mem_append.mp h1 with h1 | h1
        ·exact .inr ⟨e, List.mem_append.mpr (.inl h1), h2⟩
        ·rw [List.mem_singleton] at h1
         subst h1
         rcases key.mp h2 with h | ⟨p, hp, h⟩
         ·exact .inl (List.mem_append.mpr (.inr h))
         ·exact .inr ⟨(p, b', d'), List.mem_append.mpr (.inr (List.mem_map.mpr ⟨p, hp, rfl⟩)), h⟩
     ·rcases List.mem_append.mp hx with hx | hx
      ·exact hk5 x hx
      ·exact BD hx
     ·rcases List.mem_append.mp he with he | he
      ·exact hes e (by simp [he])
      ·obtain ⟨p, hp, rfl⟩ := List.mem_map.mp he
       exact ⟨B4 (hEn.2 p hp), jI (hEn.2 p hp)⟩
 ·rintro σ H' ⟨fs, e, x4, x5, x6, x7, rfl, W, hm, hk5⟩
  walk_at "rd"
  exact q f fs H' W.same W.fnd hm hk5
def xX (K : Frag) (A : Ad) : Sp := sp1 fun a H Q E => ∃ F t, Same F H /\ TreeAt A.tree F a t /\ jw t /\ Vp.wt t <= 1000000 /\ (match Vablda.soonest (Vablda.fileFaults t) with | none => (∀ H', Same H H' -> Q .non H') | some e => Fl K A.R E e.kind e.place)
abbrev cY : Stmt := top 89
theorem eY : ai ["file_tree", "found"] ["file_tree"] (ad cY) := by walk_at "sc"
theorem kC (T : Txt P w K mg A) (F : Fd K mg "check_placing" cY) (gU : Fn P w K mg base "faults_in" k ["file_tree"] (yo A)) (m7 : Fn P w K mg base "refuse" k ["fault"] (qV K A))  : Fn P w K mg base "check_placing" (k + 1) ["file_tree"] (xX K A) := by
 refine Fn.of1 F eY (fun _ _ _ _ _ _ _ => rfl) fun g cdv Ar outer s H a Q E hr h => ⟨_, (a9 (aq (i := 1) (q_c gU hr ae (a8 (q_v 0) aa)) eY.nd) (ac (aE (b7 qU (cy (x := "len") T.b_len (q_v 1)) ap) (ac (aA (q_c m7 hr ae (a8 (jD (wH rfl (qC hr)) rfl T.b_min (by rfl) (a8 (q_v 1) aa)) aa)))) am))), ?_⟩
 obtain ⟨F', t, hs, ht, hok, hwt, q⟩ := h
 walk_at "rd"
 refine ⟨F', t, hs, ht, hok, hwt, fun p fs H1 s1 hf hmem hk => ?_⟩
 obtain ⟨vs, hv, hpr⟩ := hf
 refine ⟨vs, .inl (.inl hv), ?_⟩
 rw [FlsAt.len hpr]
 cases e : Vablda.soonest (Vablda.fileFaults t) with
 | none =>
   rw [e] at q
   have : fs = [] := by
    cases fs with
    | nil => rfl
    | cons x l =>
      have h1 := (hmem x).mp (by simp)
      rw [k8 e] at h1
      simp at h1
   subst this
   rw [if_neg (by simp)]
   exact q H1 s1
 | some e0 =>
   rw [e] at q
   obtain ⟨m1, m2⟩ := jF e
   have hin := (hmem e0).mpr m1
   have hpos : 0 < fs.length := List.length_pos_of_mem hin
   rw [if_pos (by omega)]
   refine ⟨vs, fs.map pk, hv, hpr, by intro z; rw [List.map_eq_nil_iff] at z; rw [z] at hpos; simp at hpos, fun fp a hfp hbest ha => ?_⟩
   obtain ⟨x, hx, rfl⟩ := List.mem_map.mp hfp
   have ex : x = e0 := B6 (m2 x ((hmem x).mp hx)) (hbest _ (List.mem_map.mpr ⟨e0, hin, rfl⟩)) |>.symm ▸ rfl
   subst ex
   exact ⟨a, x, rfl, ha, hk x hx, q⟩
end
end L2
namespace L2
open PySem PySem.Spec PyProof.Rows
open Vablda (Got next got andThen one parse)
def mJ (K : Frag) (A : Ad) : Sp := sp1 fun a H Q E => ∃ T : List Nat, TextAt K H a T /\ (match Vablda.read T with | .ok t => (∀ v F H', Same H H' -> Same F H' -> TreeAt A.tree F v t -> Q v H') | .error e => Fl K A.R E e.kind e.place)
theorem A0 (ts : List Tk) : match Vablda.file ts with | .ok t => ∃ q, rs (20 * ts.length + 400) ts = got [t] q | .error e => rs (20 * ts.length + 400) ts = .error e := by
 unfold Vablda.file rs
 cases parse (20 * ts.length + 400) .stmts 0 ts with
 | error e => rfl
 | ok x =>
   obtain ⟨l, q⟩ := x
   show match (if (next q).kind = 0 then Except.ok (Vablda.Tree.node 10 l 0) else Except.error ({ kind := Vablda.SYNTAX, place := (next q).place } : Vablda.Fault)) with | .ok t => ∃ u, (if (next q).kind = 0 then got [.node 10 l 0] q else Vablda.wrong q) = got [t] u | .error e => (if (next q).kind = 0 then got [.node 10 l 0] q else Vablda.wrong q) = .error e
   by_cases h : (next q).kind = 0
   ·rw [if_pos h, if_pos h]; exact ⟨q, rfl⟩
   ·rw [if_neg h, if_neg h]; rfl
theorem sT {T : List Nat} {t : Tr} (h : Vablda.read T = .ok t) : jw t /\ Vp.wt t <= 1000000 /\ Vp.sz t <= 40000 := by
 unfold Vablda.read at h
 by_cases hl : Vablda.MOST < T.length
 ·rw [if_pos hl] at h; cases h
 ·rw [if_neg hl] at h
  have hl : ¬ 4096 < T.length := hl
  cases hc : Vablda.cut T with
  | error e => rw [hc] at h; cases h
  | ok ts =>
    rw [hc] at h
    dsimp only at h
    cases hf : Vablda.file ts with
    | error e => rw [hf] at h; cases h
    | ok x =>
      rw [hf] at h
      dsimp only at h
      cases hs : Vablda.soonest (Vablda.fileFaults x) with
      | some e => rw [hs] at h; cases h
      | none =>
        rw [hs] at h; cases h
        obtain ⟨l, rfl, hT, hw, hz⟩ := Vp.file_ok hf
        have := Vp.cut_ml _ _ _ _ hc
        exact ⟨⟨l, rfl, hT⟩, by omega, by omega⟩
def isL : Tr -> Bool
 | .leaf _ _ _ => true
 | .node _ _ _ => false
def KOk (t : Tr) : Prop := decide (Vablda.kindOf t <= 7) = isL t /\ ∀ p ∈ Vablda.partsOf t, Vp.Ok p
theorem BU {t : Tr} (h : Vp.Ok t) : KOk t := by
 cases h with
 | leaf h => exact ⟨decide_eq_true (Nat.le_of_lt_succ h), fun p hp => by simp [Vablda.partsOf] at hp⟩
 | node h g => exact ⟨decide_eq_false (by have := h.k10; show ¬ _ <= 7; simp only [Vablda.kindOf]; omega), g⟩
theorem w6 {t : Tr} (h : jw t) : KOk t /\ Vp.dep t <= 300 := by
 obtain ⟨l, rfl, h⟩ := h
 refine ⟨⟨rfl, fun p hp => (h p hp).ok⟩, ?_⟩
 have := Vp.depL_le (b := 157) fun t ht => (h t ht).de
 rw [Vp.dep]; omega
section
variable {P : Program} {w : World} {K : Frag} {mg : Str -> Option Value} {base : Heap} {A : Ad} {k k0 j : Nat}
abbrev gM : Stmt := top 144
theorem jH : ai ["text", "tree"] ["text"] (ad gM) := by walk_at "sc"
theorem qd (T : Txt P w K mg A) (F : Fd K mg "read_text" gM) (gY : Rz0 P w K mg base "LongFault" A.R k 1 0) (rq : Fn P w K mg base "read_file" k ["reader"] (wr K A)) (lX : Mkf P w K mg base "Reader" A.rdr k 1 wx) (vg : Fn P w K mg base "cut" k ["text"] (xU K A.tok A.R)) (d6 : Fn P w K mg base "check_placing" k ["file_tree"] (xX K A))  : Fn P w K mg base "read_text" (k + 1) ["text"] (mJ K A) := by
 refine Fn.of1 F jH (fun _ _ _ _ _ _ _ => rfl) fun g cdv Ar outer s H a Q E hr h => ⟨_, (a9 (aE (b7 qU (cy (x := "len") T.b_len (q_v 0)) (q_g T.g_MOST_BYTES)) (ac (Cu gY hr bc)) am) (a9 (aq (i := 1) (q_c rq hr ae (a8 (iC lX hr ae (a8 (q_c vg hr ae (a8 (q_v 0) aa)) aa)) aa)) jH.nd) (a9 (aA (q_c d6 hr ae (a8 (q_v 1) aa))) (ac (aj (q_v 1)))))), ?_⟩
 obtain ⟨T', ⟨p, rfl, hp⟩, q⟩ := h
 unfold Vablda.read at q
 walk_at "rd"
 refine ⟨_, hp, ?_⟩
 rw [bz]
 by_cases hl : Vablda.MOST < T'.length
 ·rw [if_pos hl] at q
  have hl : 4096 < T'.length := hl
  rw [if_pos (by omega)]
  exact q
 ·rw [if_neg hl] at q
  have hl : ¬ 4096 < T'.length := hl
  rw [if_neg (by omega)]
  refine ⟨T', ⟨p, rfl, hp⟩, by omega, ?_⟩
  cases hc : Vablda.cut T' with
  | error e => rw [hc] at q; exact q
  | ok ts =>
    rw [hc] at q
    dsimp only at q ⊢
    intro v H1 s1 htl hg hlen
    obtain ⟨tl, vs, rfl, _, hv, htk⟩ := htl
    refine ⟨by trivial, fun r dx hr1 hdx hne => ?_⟩
    have s2 := bI (o := .ins A.rdr dx (wx [.ref tl])) (Same.refl H1) hr1 hdx
    have R : Rs A r H1 (upd (upd H1 dx (.own r)) r (.ins A.rdr dx (wx [.ref tl]))) 0 ts :=
     ⟨s2, hr1, hg, hlen, tl, 0, dx, vs, ts, af, hv, htk.mono fun _ _ => trivial, rfl⟩
    refine ⟨r, H1, ts, 20 * ts.length + 400, rfl, R, by omega, ?_⟩
    have fg := A0 ts
    cases hf : Vablda.file ts with
    | error e =>
      rw [hf] at q fg
      rw [fg]
      exact q
    | ok t =>
      rw [hf] at q fg
      dsimp only at q fg
      obtain ⟨u, fg⟩ := fg
      rw [fg]
      intro F2 H2 v2 t' ht' G2 R2 _ htr
      cases ht'
      obtain ⟨l, rfl, hT, hw, _⟩ := Vp.file_ok hf
      have hml := Vp.cut_ml _ _ _ _ hc
      refine ⟨F2, _, R2.sub, htr, ⟨l, rfl, hT⟩, by omega, ?_⟩
      cases hs : Vablda.soonest (Vablda.fileFaults (.node 10 l 0)) with
      | none =>
        rw [hs] at q
        intro H3 s3
        exact q v2 F2 H3 (s1.trans (G2.1.trans (R2.sub.trans s3))) (R2.sub.trans s3) htr
      | some e => rw [hs] at q; exact q
end
end L2
namespace L2
open PySem PySem.Spec PyProof.Rows PySem.Builtin.SmallTypes
abbrev Zp (h : Heap) (z TI TO : Addr) (v : Value) (b : Bool) : Prop := h.get? z = some { cls := .type "zip", dict := none, data := .fields #[v, .bool b, .bool false, .ref TI, .ref TO], slots := #[] }
def Z0 (v : Value) : Prop := v = .none ∨ ∃ c, v = rawInt c
section
variable {prog : Program} {w : World} {A : Around} {E : Value -> Shared -> Prop} {s : Shared} {z TI TO i1 i2 l1 l2 : Addr} {v : Value} {b : Bool}
theorem wn {M : Model} {a : Addr} {Q : Option Obj -> Shared -> Prop} (h : Q (s.heap.get? a) s) : wpAny M A (loadIfAlive a) Q E s := fun _ _ _ => h
theorem sN {Q : Bool -> Shared -> Prop} (hz : Zp s.heap z TI TO v b) (h0 : Z0 v) (q1 : Q true s) (q2 : ∀ h', Zp h' z TI TO v true -> Heap.SameBut z s.heap h' -> Q false { s with heap := h' }) :
  wpAny (model prog w) A (ownedTupleIsFree (.ref z)) Q E s := by
 unfold ownedTupleIsFree
 refine wpAny_bind (wpAny_field hz rfl (x := v) rfl ?_)
 rcases h0 with rfl | ⟨c, rfl⟩
 ·exact wpAny_pure q1
 ·show wpAny _ _ (loadIfAlive _ >>= _) _ _ _
  refine wpAny_bind (wn ?_)
  cases s.heap.get? ((c : Int).toNat) with
  | none => exact wpAny_pure q1
  | some o =>
    show wpAny _ _ (field (.ref z) 1 >>= _) _ _ _
    refine wpAny_bind (wpAny_field hz rfl (x := .bool b) rfl ?_)
    cases b with
    | true => exact wpAny_pure (q2 s.heap hz ⟨rfl, fun _ _ => rfl⟩)
    | false =>
      show wpAny _ _ (setField (.ref z) 1 (.bool true) >>= _) _ _ _
      exact wpAny_bind (wpAny_setField_rec hz (by simp) fun h1 y1 e1 => wpAny_pure (q2 h1 y1 e1))
theorem xq {k1 k2 : Nat} {xs ys : Array Value} {x y a c : Value} {Q : Value -> Shared -> Prop} (D : ZipApart z TI TO i1 i2 l1 l2) (hz : Zp s.heap z TI TO v b) (h0 : Z0 v) (hTI : IsPair s.heap TI (.ref i1) (.ref i2)) (hTO : IsPair s.heap TO a c)
  (h1 : s.heap.IsListIter i1 l1 k1) (h2 : s.heap.IsListIter i2 l2 k2) (m1 : s.heap.IsList l1 xs) (m2 : s.heap.IsList l2 ys) (hx : xs[k1]? = some x) (hy : ys[k2]? = some y)
  (hQ : ∀ h' v' b', Zp h' z TI TO v' b' -> Z0 v' -> (∃ a c, IsPair h' TO a c) -> h'.IsListIter i1 l1 (k1 + 1) -> h'.IsListIter i2 l2 (k2 + 1) -> IsPair h' s.heap.objs.size x y ->
   (∀ c o, c ≠ z -> c ≠ TO -> c ≠ i1 -> c ≠ i2 -> s.heap.get? c = some o -> h'.get? c = some o) -> Q (.ref s.heap.objs.size) { s with heap := h' }) :
  wpAny (model prog w) A (Builtin.«zip.__next__» ⟨[.ref z], []⟩) (fun f s' => ∃ u, f = .done (.ret u) /\ Q u s') E s := by
 have lz := Heap.lt_size hz
 show wpAny _ _ (field (.ref z) 2 >>= _) _ _ _; refine wpAny_bind (wpAny_field hz rfl (x := .bool false) rfl ?_)
 show wpAny _ _ (field (.ref z) 3 >>= _) _ _ _; refine wpAny_bind (wpAny_field hz rfl (x := .ref TI) rfl ?_)
 refine wpAny_bind (wpAny_seqItems hTI rfl ?_); show wpAny _ _ (ownedTupleIsFree (.ref z) >>= _) _ _ _
 refine wpAny_bind (sN hz h0 ?_ fun j1 y1 e1 => ?_)
 ·simp only [if_true]
  refine wpAny_bind (wpAny_rule (wpAny_bind (wpAny_field hz rfl (x := .ref TO) rfl ?_)))
  refine wpAny_bind (wpAny_setField_rec hz (by simp) fun j1 y1 e1 => wpAny_bind ?_)
  replace y1 : Zp j1 z TI TO .ellipsis b := y1
  simp only [List.zipIdx_cons, List.zipIdx_nil, List.forIn_cons, List.forIn_nil]
  refine wpAny_bind (wpAny_bind (wpAny_onRaise ?_)); show wpAny _ _ (nextOf (.ref i1) >>= _) _ _ _
  refine wpAny_bind (wpAny_nextOf_list_item (h1.extBut e1.extBut D.i1z) (m1.extBut e1.extBut D.l1z) hx fun j2 n1 e2 => wpAny_pure ?_)
  have o2 : IsPair j2 TO a c := e2.extBut _ _ D.TOi1 (e1.extBut _ _ D.TOz hTO)
  refine wpAny_bind (wpAny_seqItems o2 rfl (wpAny_bind (wpAny_updateSeq_pair o2 fun j3 o3 e3 => wpAny_bind (wpAny_letGo (wpAny_pure ?_)))))
  replace o3 : IsPair j3 TO x c := o3
  refine wpAny_bind (wpAny_bind (wpAny_onRaise ?_)); show wpAny _ _ (nextOf (.ref i2) >>= _) _ _ _
  have g2 := ((h2.extBut e1.extBut D.i2z).extBut e2.extBut D.i12.symm).extBut e3.extBut D.TOi2.symm
  have g3 := ((m2.extBut e1.extBut D.l2z).extBut e2.extBut D.l2i1).extBut e3.extBut D.l2TO
  refine wpAny_bind (wpAny_nextOf_list_item g2 g3 hy fun j4 n2 e4 => wpAny_pure ?_)
  have o4 : IsPair j4 TO x c := e4.extBut _ _ D.TOi2 o3
  refine wpAny_bind (wpAny_seqItems o4 rfl (wpAny_bind (wpAny_updateSeq_pair o4 fun j5 o5 e5 => wpAny_bind (wpAny_letGo (wpAny_pure (wpAny_pure ?_))))))
  replace o5 : IsPair j5 TO x y := o5
  refine wpAny_bind (wpAny_seqItems o5 rfl (wpAny_bind (wpAny_newTuple ?_)))
  have sz : j5.objs.size = s.heap.objs.size := by rw [e5.1, e4.1, e3.1, e2.1, e1.1]
  have y5 : Zp j5 z TI TO .ellipsis b := e5.extBut _ _ D.TOz.symm (e4.extBut _ _ D.i2z.symm (e3.extBut _ _ D.TOz.symm (e2.extBut _ _ D.i1z.symm y1)))
  have l5 := Heap.lt_size y5
  show wpAny _ _ (ownedTupleHandOut (.ref z) (.ref j5.objs.size) >>= _) _ _ _
  refine wpAny_bind ?_
  unfold ownedTupleHandOut
  have y6 : Zp (j5.push { cls := .type "tuple", data := .seq #[x, y] }) z TI TO .ellipsis b := Heap.get?_push_of_some _ y5
  refine wpAny_bind (wpAny_setField_rec y6 (by simp) fun j7 y7 e7 => ?_)
  replace y7 : Zp j7 z TI TO (rawInt j5.objs.size) b := y7
  refine wpAny_setField_rec y7 (by simp) fun j8 y8 e8 => ?_
  replace y8 : Zp j8 z TI TO (rawInt j5.objs.size) false := y8
  have up : ∀ q o, q ≠ z -> j5.get? q = some o -> j8.get? q = some o := fun q o r e => e8.extBut _ _ r (e7.extBut _ _ r (Heap.get?_push_of_some _ e))
  have tp : IsPair j8 j5.objs.size x y := e8.extBut _ _ (Nat.ne_of_gt l5) (e7.extBut _ _ (Nat.ne_of_gt l5) (Heap.get?_push_size _ rfl))
  refine wpAny_pure ⟨_, rfl, ?_⟩
  show Q (.ref j5.objs.size) _
  rw [sz] at tp ⊢
  refine hQ j8 _ _ y8 (.inr ⟨_, rfl⟩) ⟨_, _, up _ _ D.TOz o5⟩ ?_ ?_ tp fun q o r1 r2 r3 r4 e => up _ _ r1 (e5.extBut _ _ r2 (e4.extBut _ _ r4 (e3.extBut _ _ r2 (e2.extBut _ _ r3 (e1.extBut _ _ r1 e)))))
  ·exact (((n1.extBut e3.extBut D.TOi1.symm).extBut e4.extBut D.i12).extBut e5.extBut D.TOi1.symm).at fun o e => up _ o D.i1z e
  ·exact (n2.extBut e5.extBut D.TOi2.symm).at fun o e => up _ o D.i2z e
 ·simp only [Bool.false_eq_true, if_false]
  rw [<- Array.forIn_toList]
  simp only [List.forIn_cons, List.forIn_nil]
  refine wpAny_bind (wpAny_bind (wpAny_bind (wpAny_holding ?_))); show wpAny _ _ (nextOf (.ref i1) >>= _) _ _ _
  refine wpAny_bind (wpAny_nextOf_list_item (h1.extBut e1.extBut D.i1z) (m1.extBut e1.extBut D.l1z) hx fun j2 n1 e2 => wpAny_pure (wpAny_pure ?_))
  refine wpAny_bind (wpAny_bind (wpAny_holding ?_)); show wpAny _ _ (nextOf (.ref i2) >>= _) _ _ _
  refine wpAny_bind (wpAny_nextOf_list_item ((h2.extBut e1.extBut D.i2z).extBut e2.extBut D.i12.symm) ((m2.extBut e1.extBut D.l2z).extBut e2.extBut D.l2i1) hy fun j4 n2 e4 => wpAny_pure (wpAny_pure (wpAny_pure ?_)))
  refine wpAny_bind (wpAny_newTuple (hsz := by show 2 <= sizeLine; decide) ?_)
  have sz : j4.objs.size = s.heap.objs.size := by rw [e4.1, e2.1, e1.1]
  refine wpAny_pure ⟨_, rfl, ?_⟩
  show Q (.ref j4.objs.size) { s with heap := j4.push { cls := .type "tuple", data := .seq #[x, y] } }
  have y4 : Zp j4 z TI TO v true := e4.extBut _ _ D.i2z.symm (e2.extBut _ _ D.i1z.symm y1)
  have up : ∀ q o, j4.get? q = some o -> (j4.push { cls := .type "tuple", data := .seq #[x, y] }).get? q = some o := fun q o e => Heap.get?_push_of_some _ e
  have tp : IsPair (j4.push { cls := .type "tuple", data := .seq #[x, y] }) j4.objs.size x y := Heap.get?_push_size _ rfl
  rw [sz] at tp ⊢
  refine hQ _ _ _ (up _ _ y4) h0 ⟨_, _, up _ _ (e4.extBut _ _ D.TOi2 (e2.extBut _ _ D.TOi1 (e1.extBut _ _ D.TOz hTO)))⟩ ((n1.extBut e4.extBut D.i12).at fun o e => up _ _ e) (n2.at fun o e => up _ _ e) tp fun q o r1 r2 r3 r4 e => up _ _ (e4.extBut _ _ r4 (e2.extBut _ _ r3 (e1.extBut _ _ r1 e)))
theorem zp {k1 k2 : Nat} {xs ys : Array Value} {a c : Value} {Q : Fin -> Shared -> Prop} (hh : A.handled = none) (D : ZipApart z TI TO i1 i2 l1 l2) (hz : Zp s.heap z TI TO v b) (h0 : Z0 v) (hTI : IsPair s.heap TI (.ref i1) (.ref i2)) (hTO : IsPair s.heap TO a c)
  (h1 : s.heap.IsListIter i1 l1 k1) (h2 : s.heap.IsListIter i2 l2 k2) (m1 : s.heap.IsList l1 xs) (m2 : s.heap.IsList l2 ys) (hx : xs[k1]? = none)
  (hE : ∀ h' e, (∀ c o, c ≠ z -> c ≠ TO -> c ≠ i1 -> c ≠ i2 -> s.heap.get? c = some o -> h'.get? c = some o) -> (∃ o, h'.get? e = some o /\ o.cls = .type "StopIteration") -> E (.ref e) { s with heap := h' }) :
  wpAny (model prog w) A (Builtin.«zip.__next__» ⟨[.ref z], []⟩) Q E s := by
 show wpAny _ _ (field (.ref z) 2 >>= _) _ _ _; refine wpAny_bind (wpAny_field hz rfl (x := .bool false) rfl ?_)
 show wpAny _ _ (field (.ref z) 3 >>= _) _ _ _; refine wpAny_bind (wpAny_field hz rfl (x := .ref TI) rfl ?_)
 refine wpAny_bind (wpAny_seqItems hTI rfl ?_); show wpAny _ _ (ownedTupleIsFree (.ref z) >>= _) _ _ _
 refine wpAny_bind (sN hz h0 ?_ fun j1 y1 e1 => ?_)
 ·simp only [if_true]
  refine wpAny_bind (wpAny_rule (wpAny_bind (wpAny_field hz rfl (x := .ref TO) rfl ?_)))
  refine wpAny_bind (wpAny_setField_rec hz (by simp) fun j1 y1 e1 => wpAny_bind ?_)
  replace y1 : Zp j1 z TI TO .ellipsis b := y1
  simp only [List.zipIdx_cons, List.zipIdx_nil, List.forIn_cons, List.forIn_nil]
  refine wpAny_bind (wpAny_bind (wpAny_onRaise ?_)); show wpAny _ _ (nextOf (.ref i1) >>= _) _ _ _
  refine wpAny_bind (wpAny_nextOf_list_end hh (h1.extBut e1.extBut D.i1z) (m1.extBut e1.extBut D.l1z) hx fun j2 e e2 he => ?_)
  obtain ⟨oe, g1, g2⟩ := he
  have y2 : Zp j2 z TI TO .ellipsis b := e2 _ _ D.i1z.symm y1
  have ez : e ≠ z := fun q => by subst q; rw [y2] at g1; cases g1; simp at g2
  exact wpAny_setField_rec y2 (by simp) fun j3 _ e3 => hE j3 e (fun q o r1 _ r3 _ u => e3.extBut _ _ r1 (e2 _ _ r3 (e1.extBut _ _ r1 u))) ⟨oe, e3.extBut _ _ ez g1, g2⟩
 ·simp only [Bool.false_eq_true, if_false]
  rw [<- Array.forIn_toList]
  simp only [List.forIn_cons, List.forIn_nil]
  refine wpAny_bind (wpAny_bind (wpAny_bind (wpAny_holding ?_))); show wpAny _ _ (nextOf (.ref i1) >>= _) _ _ _
  exact wpAny_bind (wpAny_nextOf_list_end hh (h1.extBut e1.extBut D.i1z) (m1.extBut e1.extBut D.l1z) hx fun j2 e e2 he => hE j2 e (fun q o r1 _ r3 _ u => e2 _ _ r3 (e1.extBut _ _ r1 u)) he)
theorem wS {k1 k2 : Nat} {xs ys : Array Value} {x y a c : Value} {Q : Option Value -> Shared -> Prop} (D : ZipApart z TI TO i1 i2 l1 l2) (hz : Zp s.heap z TI TO v b) (h0 : Z0 v) (hTI : IsPair s.heap TI (.ref i1) (.ref i2)) (hTO : IsPair s.heap TO a c)
  (h1 : s.heap.IsListIter i1 l1 k1) (h2 : s.heap.IsListIter i2 l2 k2) (m1 : s.heap.IsList l1 xs) (m2 : s.heap.IsList l2 ys) (hx : xs[k1]? = some x) (hy : ys[k2]? = some y)
  (hQ : ∀ h' v' b', Zp h' z TI TO v' b' -> Z0 v' -> (∃ a c, IsPair h' TO a c) -> h'.IsListIter i1 l1 (k1 + 1) -> h'.IsListIter i2 l2 (k2 + 1) -> IsPair h' s.heap.objs.size x y ->
   (∀ c o, c ≠ z -> c ≠ TO -> c ≠ i1 -> c ≠ i2 -> s.heap.get? c = some o -> h'.get? c = some o) -> Q (some (.ref s.heap.objs.size)) { s with heap := h' }) : wpAny (model prog w) A (pyNext (.ref z)) Q E s := by
 have ht : s.TypeIs (.ref z) "zip" := ⟨_, hz, rfl⟩
 unfold pyNext
 refine wpAny_bind (wpAny_attempt (wpAny_callSpecial?_slot (name := Str.ofString "__next__") ht F.slot_zip_next (wpAny_call_entry F.slot_zip_next ht F.entry_zip_next ?_ (F.args_zip_next_1 _))))
 exact xq D hz h0 hTI hTO h1 h2 m1 m2 hx hy fun h' v' b' a1 a2 a3 a4 a5 a6 a7 => wpAny_pure (hQ h' v' b' a1 a2 a3 a4 a5 a6 a7)
theorem xC {k1 k2 : Nat} {xs ys : Array Value} {a c : Value} {Q : Option Value -> Shared -> Prop} (hh : A.handled = none) (D : ZipApart z TI TO i1 i2 l1 l2) (hz : Zp s.heap z TI TO v b) (h0 : Z0 v) (hTI : IsPair s.heap TI (.ref i1) (.ref i2)) (hTO : IsPair s.heap TO a c)
  (h1 : s.heap.IsListIter i1 l1 k1) (h2 : s.heap.IsListIter i2 l2 k2) (m1 : s.heap.IsList l1 xs) (m2 : s.heap.IsList l2 ys) (hx : xs[k1]? = none)
  (hQ : ∀ h', (∀ c o, c ≠ z -> c ≠ TO -> c ≠ i1 -> c ≠ i2 -> s.heap.get? c = some o -> h'.get? c = some o) -> Q none { s with heap := h' }) : wpAny (model prog w) A (pyNext (.ref z)) Q E s := by
 have ht : s.TypeIs (.ref z) "zip" := ⟨_, hz, rfl⟩
 unfold pyNext
 refine wpAny_bind (wpAny_attempt (wpAny_callSpecial?_slot (name := Str.ofString "__next__") ht F.slot_zip_next (wpAny_call_entry F.slot_zip_next ht F.entry_zip_next ?_ (F.args_zip_next_1 _))))
 refine zp hh D hz h0 hTI hTO h1 h2 m1 m2 hx fun h' e hk ⟨o, ho, hc⟩ => ?_
 exact wpAny_bind (wpAny_isInstance (T := "StopIteration") (b := true) ⟨o, ho, hc⟩ isSubtype_stop (wpAny_pure (hQ _ hk)))
end
def Itn (K : Frag) (a b : Addr) : It :=
 ⟨fun i H => ∃ (xs ys : List V) (x y : V), SqL K H a xs /\ SqL K H b ys /\ xs[i]? = some x /\ ys[i]? = some y,
  fun i H v H' => ∃ T x y, v = .ref T /\ H T = none /\ H' = upd H T (.tup [x, y]) /\ (∀ xs, SqL K H a xs -> xs[i]? = some x) /\ ∀ ys, SqL K H b ys -> ys[i]? = some y,
  fun i H => ∃ xs ys : List V, SqL K H a xs /\ SqL K H b ys /\ xs.length <= i⟩
theorem wZ {P : Program} {w : World} {K : Frag} {nx : Str} {tpos : Pos} {a b z TI TO i1 i2 : Addr} (D : ZipApart z TI TO i1 i2 a b) :
  uy P w K (.Name nx tpos) (Itn K a b) [z, TI, TO, i1, i2] z (fun i h => (∃ v b, Zp h z TI TO v b /\ Z0 v) /\ IsPair h TI (.ref i1) (.ref i2) /\ (∃ x y, IsPair h TO x y) /\ h.IsListIter i1 a i /\ h.IsListIter i2 b i) where
 mem := by simp
 obj := fun i h st c hc => by
  obtain ⟨⟨v, f, hz, _⟩, hTI, ⟨x, y, hTO⟩, ⟨o1, e1, _, d1⟩, ⟨o2, e2, _, d2⟩⟩ := st
  have e' : c = z ∨ c = TI ∨ c = TO ∨ c = i1 ∨ c = i2 := by simpa using hc
  rcases e' with q | q | q | q | q
  ·rw [q]; exact ⟨_, hz, fun v q => nomatch q⟩
  ·rw [q]; exact ⟨_, hTI, fun v q => nomatch q⟩
  ·rw [q]; exact ⟨_, hTO, fun v q => nomatch q⟩
  ·rw [q]; exact ⟨o1, e1, fun v q => by rw [d1] at q; cases q⟩
  ·rw [q]; exact ⟨o2, e2, fun v q => by rw [d2] at q; cases q⟩
 keep := fun i h h' st k => by
  obtain ⟨⟨v, f, hz, h0⟩, hTI, ⟨x, y, hTO⟩, h1, h2⟩ := st
  exact ⟨⟨v, f, k z (by simp) _ hz, h0⟩, k TI (by simp) _ hTI, ⟨x, y, k TO (by simp) _ hTO⟩, h1.at fun o q => k i1 (by simp) o q, h2.at fun o q => k i2 (by simp) o q⟩
 item := by
  intro X hP hw hK hc i pins s σ H E I hf st hg
  subst hP hw hK
  obtain ⟨⟨v, f, hz, h0⟩, hTI, ⟨x0, y0, hTO⟩, h1, h2⟩ := st
  obtain ⟨xs, ys, x, y, hqx, hqy, hx, hy⟩ := hg
  obtain ⟨its, rv, p, _⟩ := I.list hqx
  obtain ⟨its2, rv2, p2, _⟩ := I.list hqy
  obtain ⟨u, hu, ru⟩ := rv.get hx
  obtain ⟨u2, hu2, ru2⟩ := rv2.get hy
  refine wS D hz h0 hTI hTO h1 h2 p.isList p2.isList (x := u) (y := u2) (by simpa using hu) (by simpa using hu2) fun h' v' f' z' h0' TO' h1' h2' hT hk => ?_
  have new : ObjOk X.prog X.w (upd H s.heap.objs.size (.tup [x, y])) h' s.heap.objs.size (.tup [x, y]) :=
   ⟨by show 2 <= sizeLine; decide, [u, u2], .cons ru (.cons ru2 .nil), ⟨_, hT, rfl, _, rfl⟩⟩
  have I1 : Inv X pins σ (upd H s.heap.objs.size (.tup [x, y])) { s with heap := h' } :=
   I.turnedNew (t' := s.toks) (ch := [z, TI, TO, i1, i2]) (fun c o hb q => hk c o (fun q' => hb (by simp [q'])) (fun q' => hb (by simp [q'])) (fun q' => hb (by simp [q'])) (fun q' => hb (by simp [q'])) q) hf (Nat.le_refl _) new
  have lt : ∀ c ∈ [z, TI, TO, i1, i2], c < s.heap.objs.size := fun c hcm => by
   have e' : c = z ∨ c = TI ∨ c = TO ∨ c = i1 ∨ c = i2 := by simpa using hcm
   rcases e' with q | q | q | q | q
   ·rw [q]; exact Heap.lt_size hz
   ·rw [q]; exact Heap.lt_size hTI
   ·rw [q]; exact Heap.lt_size hTO
   ·rw [q]; obtain ⟨_, e1, _⟩ := h1; exact Heap.lt_size e1
   ·rw [q]; obtain ⟨_, e2, _⟩ := h2; exact Heap.lt_size e2
  refine ⟨_, rfl, ?_⟩
  show wpAny _ _ (pure ()) _ _ _
  refine wpAny_pure ⟨.ref s.heap.objs.size, _, I1, rfl, ⟨_, x, y, rfl, I.hok.fresh (Nat.le_refl _), rfl, fun l hl => by rw [I.list_inj hl hqx]; exact hx, fun l hl => by rw [I.list_inj hl hqy]; exact hy⟩, ⟨⟨_, _, z', h0'⟩, hk _ _ D.TIz D.TITO D.TIi1 D.TIi2 hTI, TO', h1', h2'⟩, fun c hcm => ?_⟩
  rw [al (Nat.ne_of_lt (lt c hcm))]
  exact (hf c hcm).1
 done := by
  intro X hP hw hK hc i pins s σ H E I hf st hg
  subst hP hw hK
  obtain ⟨⟨v, f, hz, h0⟩, hTI, ⟨x0, y0, hTO⟩, h1, h2⟩ := st
  obtain ⟨xs, ys, hqx, hqy, hend⟩ := hg
  obtain ⟨its, rv, p, _⟩ := I.list hqx
  obtain ⟨its2, rv2, p2, _⟩ := I.list hqy
  have l1 := rv.length
  exact xC (I.ok.hd hc) D hz h0 hTI hTO h1 h2 p.isList p2.isList (by simp; omega) fun h' hk => ⟨rfl, I.turnedL (t' := s.toks) (ch := [z, TI, TO, i1, i2]) (fun c o hb q =>
   hk c o (fun q' => hb (by simp [q'])) (fun q' => hb (by simp [q'])) (fun q' => hb (by simp [q'])) (fun q' => hb (by simp [q'])) q) hf⟩
 self := fun A i s Q E st h => by
  obtain ⟨⟨v, f, hz, h0⟩, _⟩ := st
  have ht : s.TypeIs (.ref z) "zip" := ⟨_, hz, rfl⟩
  refine wpAny_pyIter_slot ht F.slot_zip_iter (wpAny_call_entry F.slot_zip_iter ht F.entry_zip_iter ?_ (F.args_zip_iter_1 _))
  show wpAny _ _ (ret (.ref z)) _ _ s
  exact wpAny_pure ⟨_, rfl, "zip", _, ht, F.slot_zip_next.lookup, h⟩
def iZn (K : Frag) (ta : TA) : TI := fun σ H R => ta σ H fun vs H1 => ∃ a b xs ys, vs = [.ref a, .ref b] /\ SqL K H1 a xs /\ SqL K H1 b ys /\ R (Itn K a b) H1
theorem Cb {X : Cx} {e e2 : Expr} {ta : TA} {p pos tpos : Pos} {nx : Str} (hg : Gl X "zip") (hm : X.mg "zip" = none) (ha : PA X [e, e2] ta)
  (hs : starEach [e, e2] X.env = (false, eval e X.env) :: starEach [e2] X.env := by rfl) (hpl : (backTo pos (starEach [e2] X.env)).any (·.1) = false := by rfl) :
  PI X (.Name nx tpos) (.Call (.Name "zip" p) [e, e2] [] pos) (iZn X.K ta) := by
 intro pins s σ H R I h
 refine Call_ (rY I hg hm uu (PyProof.Rows.callWith_type1 (thn (ha pos pins s σ H _ I h) fun us s1 ⟨vs, H1, I1, r1, q1⟩ => ?_) hs hpl))
 obtain ⟨a, b, xs, ys, ex, hqx, hqy, q⟩ := q1
 subst ex
 cases r1 with
 | cons r rr =>
   cases rr with
   | cons r' rr =>
     cases rr
     cases r
     cases r'
     obtain ⟨its, rv, p1, _⟩ := I1.list hqx
     obtain ⟨its2, rv2, p2, _⟩ := I1.list hqy
     have la : a < s1.heap.objs.size := p1.lt
     have lb : b < s1.heap.objs.size := p2.lt
     refine call_zip_2 p1.isList p2.isList fun h' hz hTI hTO h1 h2 hsz hk => wpAny_pyIter_zip hz ?_
     have I2 : Inv X pins σ H1 { s1 with heap := h' } := I1.kept (t' := s1.toks) hk
     refine ⟨s1.heap.objs.size + 4, [s1.heap.objs.size + 4, s1.heap.objs.size + 2, s1.heap.objs.size + 3, s1.heap.objs.size, s1.heap.objs.size + 1], _, _, H1, rfl, I2, wZ (PySem.W.ktu_apart s1.heap.objs.size a b la lb), ⟨⟨_, _, hz, .inl rfl⟩, hTI, ⟨_, _, hTO⟩, h1, h2⟩, fun c hcm => ?_, q⟩
     have e' : c = s1.heap.objs.size + 4 ∨ c = s1.heap.objs.size + 2 ∨ c = s1.heap.objs.size + 3 ∨ c = s1.heap.objs.size ∨ c = s1.heap.objs.size + 1 := by simpa using hcm
     have hle : s1.heap.objs.size <= c := by omega
     exact I1.fpOk hle (I1.hok.fresh hle)
theorem Ao {K : Frag} {a b : Addr} {xs ys : List V} {g : TG} {tb : TS} {D : mH} {σ : St} {H : Hp} (hlen : xs.length = ys.length) (Pv : Nat -> St -> Hp -> Prop) (h0 : Pv 0 σ H) (hl : ∀ i σ H, i <= xs.length -> Pv i σ H -> SqL K H a xs /\ SqL K H b ys)
  (hs : ∀ i x y T σ H, xs[i]? = some x -> ys[i]? = some y -> H T = none -> Pv i σ H -> g (.ref T) σ (upd H T (.tup [x, y])) fun σ2 H2 => tb { D with nx := Pv (i + 1), ct := Pv (i + 1), bk := D.nx } σ2 H2) (hd : ∀ σ H, Pv xs.length σ H -> D.nx σ H) :
  ∃ W : Nat -> Nat -> St -> Hp -> Prop, (∃ m, W 0 m σ H) /\ ∀ i m σ H, W i m σ H ->
    ((Itn K a b).stop i H /\ D.nx σ H) ∨ ((Itn K a b).go i H /\ ∃ N : St -> Hp -> Prop, (∀ σ' H', N σ' H' -> ∃ m', m' < m /\ W (i + 1) m' σ' H') /\ ∀ x H', (Itn K a b).yld i H x H' -> g x σ H' fun σ2 H2 => tb { D with nx := N, ct := N, bk := D.nx } σ2 H2) := by
 refine ⟨fun i m σ H => m = xs.length - i /\ i <= xs.length /\ Pv i σ H, ⟨xs.length, by simp, Nat.zero_le _, h0⟩, ?_⟩
 rintro i m σ H ⟨rfl, hi, p⟩
 obtain ⟨q1, q2⟩ := hl i σ H hi p
 by_cases hlt : i < xs.length
 ·refine .inr ⟨⟨xs, ys, xs[i], ys[i]'(by omega), q1, q2, List.getElem?_eq_getElem _, List.getElem?_eq_getElem _⟩, Pv (i + 1), fun σ' H' p' => ⟨xs.length - (i + 1), by omega, rfl, hlt, p'⟩, fun v H' y => ?_⟩
  obtain ⟨T, x, y, rfl, hT, rfl, y1, y2⟩ := y
  exact hs i x y T σ _ (y1 xs q1) (y2 ys q2) hT p
 ·have e : i = xs.length := by omega
  subst e
  exact .inl ⟨⟨xs, ys, q1, q2, Nat.le_refl _⟩, hd σ H p⟩
end L2
namespace L2
open PySem PySem.Spec PyProof.Rows
open Vablda (kindOf partsOf bytesOf)
def alk (x y : Tr) : Bool := kindOf x == kindOf y && (bytesOf x == bytesOf y && (partsOf x).length == (partsOf y).length)
mutual
def sm : Tr -> Tr -> Bool
 | .leaf k b p, y => alk (.leaf k b p) y
 | .node k l p, y => alk (.node k l p) y && smL l (partsOf y)
def smL : List Tr -> List Tr -> Bool
 | [], _ => true
 | x :: l, ys => match ys with
   | [] => true
   | y :: r => sm x y && smL l r
end
theorem CF (x y : Tr) : sm x y = (alk x y && smL (partsOf x) (partsOf y)) := by
 cases x with
 | leaf k b p => rw [sm]; simp [partsOf, smL]
 | node k l p => rw [sm]; rfl
mutual
def nb : Tr -> List Nat
 | .leaf k b _ => k :: 0 :: b.length :: b
 | .node k l _ => k :: 0 :: l.length :: nbL l
def nbL : List Tr -> List Nat
 | [] => []
 | t :: ts => nb t ++ nbL ts
end
theorem uM {n : Nat} (ih : ∀ t : Tr, Vp.dep t <= n -> Vablda.numbersIn n (Vablda.bare n t) = nb t) : ∀ l : List Tr, Vp.depL l <= n -> (l.map (Vablda.bare n)).flatMap (Vablda.numbersIn n) = nbL l
 | [], _ => by simp [nbL]
 | t :: l, h => by
   rw [Vp.depL] at h
   rw [List.map_cons, List.flatMap_cons, nbL, ih t (Nat.le_trans (Nat.le_max_left _ _) h), uM ih l (Nat.le_trans (Nat.le_max_right _ _) h)]
theorem uR : ∀ (n : Nat) (t : Tr), Vp.dep t <= n -> Vablda.numbersIn n (Vablda.bare n t) = nb t
 | 0, .leaf _ _ _, h => by simp [Vp.dep] at h
 | 0, .node _ _ _, h => by simp [Vp.dep] at h
 | n + 1, .leaf k b p, _ => by simp [Vablda.numbersIn, Vablda.bare, nb]
 | n + 1, .node k l p, h => by
   rw [Vp.dep] at h
   simp only [Vablda.numbersIn, Vablda.bare, nb, List.length_map]
   rw [uM (uR n) l (by omega)]
theorem e9 {x y : Tr} : alk x y = true ↔ kindOf x = kindOf y /\ bytesOf x = bytesOf y /\ (partsOf x).length = (partsOf y).length := by
 unfold alk; simp only [Bool.and_eq_true, beq_iff_eq]
mutual
theorem vY : ∀ (x y : Tr) (r s : List Nat), KOk x -> KOk y -> nb x ++ r = nb y ++ s -> sm x y = true /\ r = s
 | .leaf k b p, .leaf k' b' p', r, s, _, _, h => by
   simp only [nb, List.cons_append, List.cons.injEq, true_and] at h
   obtain ⟨rfl, hl, h⟩ := h
   obtain ⟨rfl, rfl⟩ := List.append_inj h hl
   exact ⟨by rw [sm, e9]; exact ⟨rfl, rfl, rfl⟩, rfl⟩
 | .leaf k b p, .node k' l' p', r, s, hx, hy, h => by
   simp only [nb, List.cons_append, List.cons.injEq, true_and] at h
   have h1 := hx.1; have h2 := hy.1
   simp only [Vablda.kindOf, isL, decide_eq_true_eq, decide_eq_false_iff_not] at h1 h2; omega
 | .node k l p, .leaf k' b' p', r, s, hx, hy, h => by
   simp only [nb, List.cons_append, List.cons.injEq, true_and] at h
   have h1 := hx.1; have h2 := hy.1
   simp only [Vablda.kindOf, isL, decide_eq_true_eq, decide_eq_false_iff_not] at h1 h2; omega
 | .node k l p, .node k' l' p', r, s, hx, hy, h => by
   simp only [nb, List.cons_append, List.cons.injEq, true_and] at h
   obtain ⟨rfl, hl, h⟩ := h
   obtain ⟨h1, h2⟩ := tO l l' r s hx.2 hy.2 hl h
   exact ⟨by rw [sm, Bool.and_eq_true, e9]; exact ⟨⟨rfl, rfl, hl⟩, h1⟩, h2⟩
theorem tO : ∀ (l m : List Tr) (r s : List Nat), (∀ x ∈ l, Vp.Ok x) -> (∀ x ∈ m, Vp.Ok x) -> l.length = m.length -> nbL l ++ r = nbL m ++ s -> smL l m = true /\ r = s
 | [], [], r, s, _, _, _, h => ⟨by rw [smL], by simpa [nbL] using h⟩
 | [], y :: m, _, _, _, _, hl, _ => by simp at hl
 | x :: l, [], _, _, _, _, hl, _ => by simp at hl
 | x :: l, y :: m, r, s, hx, hy, hl, h => by
   simp only [nbL, List.append_assoc] at h
   obtain ⟨h1, h2⟩ := vY x y _ _ (BU (hx x (by simp))) (BU (hy y (by simp))) h
   obtain ⟨h3, h4⟩ := tO l m r s (fun z hz => hx z (by simp [hz])) (fun z hz => hy z (by simp [hz])) (by simpa using hl) h2
   exact ⟨by simp only [smL, h1, h3, Bool.and_self], h4⟩
end
mutual
theorem ym : ∀ (x y : Tr), sm x y = true -> nb x = nb y
 | .leaf k b p, y, h => by
   rw [sm, e9] at h
   obtain ⟨h1, h2, h3⟩ := h
   cases y with
   | leaf k' b' p' => cases h1; cases h2; rfl
   | node k' l' p' =>
     cases h1; cases h2
     have : l' = [] := List.length_eq_zero_iff.mp h3.symm
     subst this; simp [nb, nbL]
 | .node k l p, y, h => by
   rw [sm, Bool.and_eq_true, e9] at h
   obtain ⟨⟨h1, h2, h3⟩, h4⟩ := h
   cases y with
   | leaf k' b' p' =>
     cases h1; cases h2
     have : l = [] := List.length_eq_zero_iff.mp h3
     subst this; simp [nb, nbL]
   | node k' l' p' =>
     cases h1
     have h3 : l.length = l'.length := h3
     rw [nb, nb, wc l l' h3 h4, h3]
theorem wc : ∀ (l m : List Tr), l.length = m.length -> smL l m = true -> nbL l = nbL m
 | [], [], _, _ => rfl
 | [], y :: m, hl, _ => by simp at hl
 | x :: l, [], hl, _ => by simp at hl
 | x :: l, y :: m, hl, h => by
   simp only [smL, Bool.and_eq_true] at h
   rw [nbL, nbL, ym x y h.1, wc l m (by simpa using hl) h.2]
end
theorem xl {x y : Tr} (hx : jw x) (hy : jw y) : Vablda.same x y = sm x y := by
 obtain ⟨a1, a2⟩ := w6 hx
 obtain ⟨b1, b2⟩ := w6 hy
 unfold Vablda.same
 rw [show Vablda.numbersIn Vablda.FAR (Vablda.bare Vablda.FAR x) = nb x from uR 300 x a2, show Vablda.numbersIn Vablda.FAR (Vablda.bare Vablda.FAR y) = nb y from uR 300 y b2, Bool.eq_iff_iff, beq_iff_eq]
 exact ⟨fun h => (vY x y [] [] a1 b1 (by rw [h])).1, ym x y⟩
def tM (A : Ad) : Sp := sp2 fun a b H Q _ => ∃ F G x y, Same F H /\ Same G H /\ TreeAt A.tree F a x /\ TreeAt A.tree G b y /\ Q (.bl (alk x y)) H
def oE (A : Ad) : Sp := sp2 fun a b H Q _ => ∃ F G x y, Same F H /\ Same G H /\ TreeAt A.tree F a x /\ TreeAt A.tree G b y /\ Vp.wt x <= 1000000 /\ ∀ H', Same H H' -> Q (.bl (sm x y)) H'
section
variable {P : Program} {w : World} {K : Frag} {mg : Str -> Option Value} {base : Heap} {A : Ad} {k k0 j : Nat}
abbrev hW : Stmt := top 2
theorem pL : ai ["first", "second"] ["first", "second"] (ad hW) := by walk_at "sc"
theorem oO (T : Txt P w K mg A) (F : Fd K mg "are_alike" hW)   : Fn P w K mg base "are_alike" (k + 1) ["first", "second"] (tM A) := by
 refine Fn.of2 F pL (fun _ _ _ _ _ _ _ _ => rfl) fun g cdv Ar outer s H a b Q E hr h => ⟨_, (a9 (aE (f6 (lh (b7 uJ (q_f T.cl_tree T.na_tree_kind (q_v 0)) (q_f T.cl_tree T.na_tree_kind (q_v 1))) (gA (b7 (zP hr.units) (q_f T.cl_tree T.na_tree_data (q_v 0)) (q_f T.cl_tree T.na_tree_data (q_v 1))))).pt) (ac (aj l8)) am) (ac (aj (cP bP (cy (x := "len") T.b_len (q_f T.cl_tree T.na_tree_parts (q_v 0))) (cy (x := "len") T.b_len (q_f T.cl_tree T.na_tree_parts (q_v 1))) (by first | exact bq _ (by decide) (by decide) | rfl))))), ?_⟩
 obtain ⟨F', G, x, y, hs, hg, hx, hy, q⟩ := h
 obtain ⟨a1, dx, dl, pl, vs, rfl, h1, h2, h3, h4⟩ := hx.flds
 obtain ⟨a2, dx2, dl2, pl2, vs2, rfl, g1, g2, g3, g4⟩ := hy.flds
 walk_at "rd"
 refine yr (fun b H1 => H1 = H /\ b = !(decide (kindOf x = kindOf y) && decide (bytesOf x = bytesOf y))) ?_ ?_
 ·walk_at "rd"
  refine ⟨dx, _, _, hs _ _ h1, rfl, dx2, _, _, hg _ _ g1, rfl, ?_⟩
  show (if ¬((kindOf x : Int) = (kindOf y : Int)) then _ else _)
  by_cases hk : kindOf x = kindOf y
  ·rw [if_neg (by omega)]
   refine ⟨dx, _, _, hs _ _ h1, rfl, dx2, _, _, hg _ _ g1, rfl, _, _, .lst (.inl (.inl (hs _ _ h2))) (nc _), .lst (.inl (.inl (hg _ _ g2))) (nc _), nj _, nj _, ?_⟩
   simp only [PyData.eqv, jo]
   exact ⟨by trivial, by rw [decide_eq_true hk, Bool.true_and]⟩
  ·rw [if_pos (by omega)]
   exact ⟨trivial, by rw [decide_eq_false hk]; rfl⟩
 ·rintro b H1 ⟨rfl, rfl⟩
  by_cases e : kindOf x = kindOf y /\ bytesOf x = bytesOf y
  ·rw [decide_eq_true e.1, decide_eq_true e.2]
   refine c9 ⟨dx, _, _, hs _ _ h1, rfl, ⟨_, .inl (.inl (hs _ _ h3)), dx2, _, _, hg _ _ g1, rfl, ⟨_, .inl (.inl (hg _ _ g3)), ?_⟩⟩⟩
   have ea : decide ((vs.length : Int) = (vs2.length : Int)) = alk x y := by
    rw [h4.len, g4.len, Bool.eq_iff_iff, e9, decide_eq_true_eq]
    exact ⟨fun z => ⟨e.1, e.2, by omega⟩, fun z => by omega⟩
   rw [ea]; exact q
  ·have ea : alk x y = false := Bool.eq_false_iff.mpr fun z => e ⟨(e9.mp z).1, (e9.mp z).2.1⟩
   rw [ea] at q
   have eb : (!(decide (kindOf x = kindOf y) && decide (bytesOf x = bytesOf y))) = true := by
    rw [Bool.not_eq_true', Bool.and_eq_false_iff, decide_eq_false_iff_not, decide_eq_false_iff_not]
    by_cases z : kindOf x = kindOf y
    ·exact .inr fun y => e ⟨z, y⟩
    ·exact .inl z
   rw [eb]; exact bU q
abbrev Pr := Tr × Tr
structure Wp (A : Ad) (H0 F G H : Hp) (wk : Addr) (es : List Pr) : Prop where
 same : Same H0 H
 wrk : ∃ vs, H wk = some (.lst vs) /\ Paired (fun v (e : Pr) => ∃ a x y, v = V.ref a /\ H a = some (.tup [x, y]) /\ TreeAt A.tree F x e.1 /\ TreeAt A.tree G y e.2) vs es
 nw : H0 wk = none
theorem Wp.step {H0 F G H H' : Hp} {wk : Addr} {es : List Pr} (s : Wp A H0 F G H wk es) (e : Same H H') : Wp A H0 F G H' wk es := by
 obtain ⟨vs, h1, h2⟩ := s.wrk
 exact ⟨s.same.trans e, ⟨vs, e _ _ h1, Paired.mapP h2 fun _ _ ⟨a, x, y, q1, q2, q3⟩ => ⟨a, x, y, q1, e _ _ q2, q3⟩⟩, s.nw⟩
def wtp (es : List Pr) : Nat := (es.map fun e => Vp.wt e.1).foldr (· + ·) 0
theorem jB : ∀ (a b : List Pr), wtp (a ++ b) = wtp a + wtp b
 | [], b => by simp [wtp]
 | e :: a, b => by
   have := jB a b
   show Vp.wt e.1 + wtp (a ++ b) = Vp.wt e.1 + wtp a + wtp b
   omega
theorem sL : ∀ es : List Pr, es.length <= wtp es
 | [] => by simp
 | e :: es => by
   have := sL es
   have := Vp.wt_pos e.1
   show es.length + 1 <= Vp.wt e.1 + wtp es
   omega
theorem sK : ∀ l m : List Tr, wtp (l.zip m) <= Vp.wtL l
 | [], m => by simp [wtp]
 | x :: l, [] => by simp [wtp]
 | x :: l, y :: m => by
   have := sK l m
   rw [Vp.wtL]
   show Vp.wt x + wtp (l.zip m) <= _
   omega
theorem tG : ∀ l m : List Tr, smL l m = (l.zip m).all fun e => sm e.1 e.2
 | [], m => by simp [smL]
 | x :: l, [] => by simp [smL]
 | x :: l, y :: m => by simp only [smL, List.zip_cons_cons, List.all_cons, tG l m]
abbrev jd : Stmt := top 1
theorem dO : ai ["first", "second", "work", "pair", "parts"] ["first", "second"] (ad jd) := by walk_at "sc"
theorem rB (T : Txt P w K mg A) (F : Fd K mg "are_same" jd) (gL : Fn P w K mg base "are_alike" k ["first", "second"] (tM A))  : Fn P w K mg base "are_same" (k + 1) ["first", "second"] (oE A) := by
 refine Fn.of2 F dO (fun _ _ _ _ _ _ _ _ => rfl) fun g cdv Ar outer s H a b Q E hr h => ⟨_, (a9 (aq (i := 2) (aJ (a8 (fM (a8 (q_v 0) (a8 (q_v 1) aa))) aa)) dO.nd) (a9 (bp (bv PassesOwn.leaving (b7 qU (cy (x := "len") T.b_len (q_v 2)) ap) (a9 (aq (i := 3) (ya (q_v 2)) dO.nd) (a9 (aE (fL (c6 (q_c gL hr ae (a8 (gb (q_v 3) ap) (a8 (gb (q_v 3) ap) aa))))) (ac (aj l8)) am) (ac (bp (iX PassesOwn.leaving rfl (Cb rfl T.b_zip (a8 (q_f T.cl_tree T.na_tree_parts (gb (q_v 3) ap)) (a8 (q_f T.cl_tree T.na_tree_parts (gb (q_v 3) ap)) aa))) (cO (i := 4) dO.nd rfl (Or.inl rfl)) (ac (aA (cD (q_v 2) (q_v 4))))))))))) (ac (aj l8)))), ?_⟩
 obtain ⟨F', G, t, u, hs, hg, ht, hu, hwt, q⟩ := h
 walk_at "rd"
 refine ⟨(by rw [sizeLine_eq]; decide), fun c hc => ⟨(by rw [sizeLine_eq]; decide), fun wk hwk => ?_⟩⟩
 have s1 : Same H (upd H c (.tup [a, b])) := Same.upd hc
 have s2 := Same.upd (o := .lst [.ref c]) hwk
 have W0 : Wp A H F' G (upd (upd H c (.tup [a, b])) wk (.lst [.ref c])) wk [(t, u)] := ⟨s1.trans s2, ⟨_, af, .cons ⟨c, a, b, rfl, s2 _ _ af, ht, hu⟩ .nil⟩, s1.free hwk⟩
 refine bo (fun σ H' => ∃ x3 x4, σ = [some a, some b, some (.ref wk), x3, x4] /\ Same H H' /\ sm t u = true)
  (Exists.intro (fun m σ H' => ∃ es x3 x4, σ = [some a, some b, some (.ref wk), x3, x4] /\ m = wtp es /\ Wp A H F' G H' wk es /\ sm t u = (es.all fun e => sm e.1 e.2) /\ wtp es <= 1000000)
   ⟨⟨_, [(t, u)], none, none, rfl, rfl, W0, by simp, by simp [wtp]; exact hwt⟩, ?_⟩) ?_
 ·rintro m σ H1 ⟨es, x3, x4, rfl, rfl, W1, hsm, hlen⟩
  obtain ⟨wv, hwv, hWk⟩ := W1.wrk
  walk_at "rd"
  refine ⟨_, .inl (.inl hwv), ?_⟩
  have hl2 : wv.length = es.length := Paired.length hWk
  by_cases he : es = []
  ·subst he
   rw [if_neg (by rw [hl2]; simp)]
   exact ⟨x3, x4, rfl, W1.same, by simpa using hsm⟩
  ·rw [if_pos (by rw [hl2]; have := List.length_pos_iff.mpr he; omega)]
   obtain ⟨wv', y, es', e, rfl, rfl, hWk', ⟨ea, xv, yv, rfl, hea, hxt, hyt⟩⟩ := Paired.last hWk he
   obtain ⟨x, y⟩ := e
   have W2 : Wp A H F' G (upd H1 wk (.lst wv')) wk es' := ⟨W1.same.upd2 W1.nw, ⟨_, af, Paired.mapP hWk' fun _ _ ⟨a, x, y, q1, q2, q3⟩ => ⟨a, x, y, q1, dg hwv _ _ q2, q3⟩⟩, W1.nw⟩
   have hea2 : upd H1 wk (.lst wv') ea = some (.tup [xv, yv]) := dg hwv _ _ hea
   have sq : SqT K (upd H1 wk (.lst wv')) ea [xv, yv] := .inl (.inl hea2)
   have hF : ∀ {Hz : Hp} {es : List Pr}, Wp A H F' G Hz wk es -> Same F' Hz /\ Same G Hz := fun W => ⟨hs.trans W.same, hg.trans W.same⟩
   rw [List.all_append, List.all_cons, List.all_nil, Bool.and_true, CF x y] at hsm
   refine ⟨_, fun _ _ h => h, wv', _, hwv, _, _, sq, c7 (j := 0) rfl rfl, _, _, sq, c7 (j := 1) rfl rfl, F', G, x, y, (hF W2).1, (hF W2).2, hxt, hyt, ?_⟩
   cases hal : alk x y with
   | false =>
     rw [hal, Bool.false_and, Bool.and_false] at hsm
     have := q _ W2.same
     rw [hsm] at this
     show (if false = false then _ else _)
     rw [if_pos rfl]; exact this
   | true =>
     rw [hal, Bool.true_and, tG] at hsm
     obtain ⟨_, _, hpl⟩ := e9.mp hal
     obtain ⟨a1, dx, dl, pl, vs, rfl, h1, h2, h3, h4⟩ := hxt.flds
     obtain ⟨a2, dx2, dl2, pl2, vs2, rfl, g1, g2, g3, g4⟩ := hyt.flds
     have hvl : vs.length = vs2.length := by rw [h4.len, g4.len, hpl]
     have hwp := Vp.wt_parts x
     have hwz := sK (partsOf x) (partsOf y)
     rw [jB, show wtp [(x, y)] = Vp.wt x by simp [wtp]] at hlen
     show (if true = false then _ else _)
     rw [if_neg (by decide)]
     refine bo (fun σ H' => ∃ y4, σ = [some a, some b, some (.ref wk), some (.ref ea), y4] /\ Wp A H F' G H' wk (es' ++ (partsOf x).zip (partsOf y)))
      ⟨_, _, sq, c7 (j := 0) rfl rfl, dx, _, _, (hF W2).1 _ _ h1, rfl, _, _, sq, c7 (j := 1) rfl rfl, dx2, _, _, (hF W2).2 _ _ g1, rfl, pl, pl2, vs, vs2, rfl, .inl (.inl ((hF W2).1 _ _ h3)), .inl (.inl ((hF W2).2 _ _ g3)),
       Ao (xs := vs) (ys := vs2) hvl (fun i σ H' => ∃ y4, σ = [some a, some b, some (.ref wk), some (.ref ea), y4] /\ Wp A H F' G H' wk (es' ++ ((partsOf x).zip (partsOf y)).take i))
        ⟨_, rfl, by simpa using W2⟩ (fun i σ H' _ ⟨_, _, W⟩ => ⟨.inl (.inl ((hF W).1 _ _ h3)), .inl (.inl ((hF W).2 _ _ g3))⟩) ?_ (fun σ H' ⟨y4, e1, e2⟩ => ⟨y4, e1, by rw [h4.len, List.take_of_length_le (by rw [List.length_zip, hpl]; omega)] at e2; exact e2⟩)⟩ ?_
     ·rintro i xi yi T σ Hi hxi hyi hT ⟨y4, rfl, Wi⟩
      obtain ⟨px, hpx, hpxt⟩ := h4.get hxi
      obtain ⟨py, hpy, hpyt⟩ := g4.get hyi
      have hz : ((partsOf x).zip (partsOf y))[i]? = some (px, py) := List.getElem?_zip_eq_some.mpr ⟨hpx, hpy⟩
      have Wj := Wi.step (Same.upd (o := .tup [xi, yi]) hT)
      obtain ⟨wj, hwj, hWj⟩ := Wj.wrk
      walk_at "rd"
      refine ⟨⟨_, hwj⟩, wj, hwj, ?_, _, rfl, ?_⟩
      ·rw [Paired.length hWj, List.length_append, List.length_take, List.length_zip, sizeLine_eq]
       have := sL es'
       omega
      ·rw [bG hz, <- List.append_assoc]
       exact ⟨Wj.same.upd2 Wj.nw, ⟨_, af, Paired.snoc (Paired.mapP hWj fun _ _ ⟨a, x, y, q1, q2, q3⟩ => ⟨a, x, y, q1, dg hwj _ _ q2, q3⟩) ⟨T, xi, yi, rfl, dg hwj _ _ af, hpxt, hpyt⟩⟩, Wj.nw⟩
     ·rintro σ Hj ⟨y4, rfl, Wj⟩
      refine ⟨wtp (es' ++ (partsOf x).zip (partsOf y)), ?_, _, _, _, rfl, rfl, Wj, by rw [List.all_append]; exact hsm, ?_⟩
      ·rw [jB, jB, show wtp [(x, y)] = Vp.wt x by simp [wtp]]; omega
      ·rw [jB]; omega
 ·rintro σ H' ⟨x3, x4, rfl, sH, hsm⟩
  have := q H' sH
  rw [hsm] at this
  exact this
end
end L2
namespace L2
open PySem PySem.Spec PyProof.Rows
section
variable {P : Program} {w : World} {K : Frag} {mg : Str -> Option Value} {base : Heap} {A : Ad} {k k0 j : Nat}
def tj (T U : List Nat) : List Int := match Vablda.read T with
 | .error e => [-(e.kind : Int)]
 | .ok x => match Vablda.read U with
   | .error e => [-(e.kind : Int) - 20]
   | .ok y => [if Vablda.same x y = true then 1 else 0]
def kO (K : Frag) : Sp := sp2 fun a b H Q _ => ∃ T U : List Nat, TextAt K H a T /\ TextAt K H b U /\ ∀ q H', H' q = some (.lst ((tj T U).map V.int)) -> Q (.ref q) H'
abbrev sD : Stmt := top 147
theorem k7 : ai ["a", "b", "first", "second", "fault"] ["a", "b"] (ad sD) := by walk_at "sc"
theorem wz {g : Addr} {fd : FuncData} (T : Txt P w K mg A) (F : Fun K "same" "same" sD g fd) (kY : Fn P w K mg base "read_text" k ["text"] (mJ K A)) (iS : Fn P w K mg base "are_same" k ["first", "second"] (oE A)) : FnOk P w K mg base (CXR P w) (k + 1) g fd ["a", "b"] (kO K) := by
 refine F.okX0 k7 (fun vs H Q E h => ?_) (fun cdv Ar outer s H vs Q E hr h => ?_)
 ·unfold kO sp2 at h; split at h <;> first | rfl | exact h.elim
 ·unfold kO sp2 at h
  split at h <;> first | exact h.elim | skip
  rename_i a b
  obtain ⟨T1, T2, hT1, hT2, q⟩ := h
  refine ⟨_, o6 (uT (i := 4) (R := A.R) (tb := fun E1 => vT (cC (mJ K A) E1 (li (cV 0) nD)) (o7 2)) (th := xy (wQ (li (tUn (rU fun i => .int (-i)) (tXF K (cV 4) "number")) nD))) ⟨rfl, rfl, rfl, rfl⟩ k7.nd rfl rfl rfl T.gR T.xR (fun xe E1 th => ac (aq (i := 2) (q_c kY hr (th.passes rfl) (a8 (q_v 0) aa)) k7.nd)) (fun a => ac (aj (aJ (a8 (xO uI (tK (q_v 4) rfl)) aa)))))
   (o6 (uT (i := 4) (R := A.R) (tb := fun E1 => vT (cC (mJ K A) E1 (li (cV 1) nD)) (o7 3)) (th := xy (wQ (li (tOp (oI fun i j => .int (i - j)) (tUn (rU fun i => .int (-i)) (tXF K (cV 4) "number")) (tC (.int 20))) nD))) ⟨rfl, rfl, rfl, rfl⟩ k7.nd rfl rfl rfl T.gR T.xR (fun xe E1 th => ac (aq (i := 3) (q_c kY hr (th.passes rfl) (a8 (q_v 1) aa)) k7.nd)) (fun a => ac (aj (aJ (a8 (cq rg (xO uI (tK (q_v 4) rfl)) (q_g T.g_LESS_FOR_SECOND)) aa)))))
    (PSs.zero (a9 (aE (c6 (q_c iS hr ae (a8 (q_v 2) (a8 (q_v 3) aa)))) (ac (aj (aJ (a8 ap aa)))) am) (ac (aj (aJ (a8 ap aa))))))), ?_⟩
  unfold wY Ca
  walk_at "rd"
  have h1z : 1 <= sizeLine := by rw [sizeLine_eq]; decide
  refine ⟨T1, hT1, ?_⟩
  unfold tj at q
  cases hr1 : Vablda.read T1 with
  | error e =>
    rw [hr1] at q
    rintro p H2 ⟨C, dx, fs, h1, h2, h3, h4, h5, h6, h7, h8⟩
    exact ⟨p, C, dx, rfl, h1, h5.cls, h8, p, C, dx, fs, _, rfl, h1, h2, h5, h6, h3, _, rfl, h1z, fun p hp => q p _ af⟩
  | ok x =>
    rw [hr1] at q
    obtain ⟨hokx, hwx, _⟩ := sT hr1
    intro v F2 H2 s2 sF hv
    refine ⟨T2, hT2.same s2, ?_⟩
    dsimp only at q
    cases hr2 : Vablda.read T2 with
    | error e =>
      rw [hr2] at q
      rintro p H2 ⟨C, dx, fs, h1, h2, h3, h4, h5, h6, h7, h8⟩
      exact ⟨p, C, dx, rfl, h1, h5.cls, h8, p, C, dx, fs, _, rfl, h1, h2, h5, h6, h3, _, rfl, h1z, fun p hp => q p _ af⟩
    | ok y =>
      obtain ⟨hoky, _, _⟩ := sT hr2
      rw [hr2] at q
      intro v2 F3 H3 s3 sF3 hv2
      refine ⟨F2, F3, x, y, sF.trans s3, sF3, hv, hv2, hwx, fun H4 s4 => ?_⟩
      dsimp only at q
      rw [xl hokx hoky] at q
      cases hsm : sm x y with
      | true => rw [hsm, if_pos rfl] at q; exact bU ⟨h1z, fun p hp => q p _ af⟩
      | false => rw [hsm, if_neg (by decide)] at q; exact c9 ⟨h1z, fun p hp => q p _ af⟩
end
end L2
namespace L2
open PySem PySem.Spec PyProof.Rows
def Ini (K : Frag) (mg : Str -> Option Value) (x qual : Str) (C : Addr) (st : Stmt) : Prop := mg x = some (.ref C) /\ ∃ f fd, Mk K C f /\ Fun K "__init__" qual st f fd
def qz (K : Frag) (mg : Str -> Option Value) (R : Addr) (x qual : Str) (st : Stmt) : Prop := ∃ C f fd, mg x = some (.ref C) /\ XMk K C f /\ XK2 K C /\ mroIn K C (.ref R) = some true /\ Fun K "__init__" qual st f fd
structure Az (P : Program) (w : World) (K : Frag) (mg : Str -> Option Value) (A : Ad) : Prop where
 T : Txt P w K mg A
 d_are_same : Fd K mg "are_same" jd
 d_are_alike : Fd K mg "are_alike" hW
 d_leaf : Fd K mg "leaf" sr
 d_node : Fd K mg "node" rO
 d_names_at_file_level : Fd K mg "names_at_file_level" bJ
 d_names_given_by : Fd K mg "names_given_by" cH
 d_codes_of : Fd K mg "codes_of" j9
 d_cut : Fd K mg "cut" vt
 d_remark_end : Fd K mg "remark_end" fF
 d_token_at : Fd K mg "token_at" iJ
 d_is_letter : Fd K mg "is_letter" i3
 d_is_digit : Fd K mg "is_digit" jv
 d_word_at : Fd K mg "word_at" kF
 d_word_end : Fd K mg "word_end" iH
 d_kept_word : Fd K mg "kept_word" gH
 d_number_at : Fd K mg "number_at" gu
 d_worth_of : Fd K mg "worth_of" iI
 d_quoted_at : Fd K mg "quoted_at" hZ
 d_byte_at : Fd K mg "byte_at" kj
 d_told_byte : Fd K mg "told_byte" gJ
 d_escaped_byte : Fd K mg "escaped_byte" du
 d_hex_worth : Fd K mg "hex_worth" i4
 d_told_width : Fd K mg "told_width" fQ
 d_sign_at : Fd K mg "sign_at" kI
 d_check_placing : Fd K mg "check_placing" cY
 d_refuse : Fd K mg "refuse" n9
 d_faults_in : Fd K mg "faults_in" gX
 d_is_misplaced : Fd K mg "is_misplaced" dB
 d_labels_of : Fd K mg "labels_of" ik
 d_twice_faults : Fd K mg "twice_faults" dC
 d_behind_faults : Fd K mg "behind_faults" d5
 d_has_giving : Fd K mg "has_giving" f9
 d_read_expr : Fd K mg "read_expr" gq
 d_read_and : Fd K mg "read_and" jp
 d_read_joined : Fd K mg "read_joined" eK
 d_node_of_several : Fd K mg "node_of_several" cw
 d_read_not : Fd K mg "read_not" ji
 d_read_comp : Fd K mg "read_comp" gx
 d_read_sum : Fd K mg "read_sum" iO
 d_read_prod : Fd K mg "read_prod" gK
 d_read_signs : Fd K mg "read_signs" fY
 d_read_signed : Fd K mg "read_signed" eE
 d_read_post : Fd K mg "read_post" hX
 d_read_behind_atom : Fd K mg "read_behind_atom" cn
 d_read_name : Fd K mg "read_name" gQ
 d_read_call : Fd K mg "read_call" i8
 d_read_row : Fd K mg "read_row" iK
 d_read_behind_first : Fd K mg "read_behind_first" ca
 d_read_arg : Fd K mg "read_arg" iM
 d_read_index : Fd K mg "read_index" fi
 d_read_atom : Fd K mg "read_atom" gP
 d_read_parenthesized : Fd K mg "read_parenthesized" bS
 d_read_list : Fd K mg "read_list" gF
 d_read_list_for : Fd K mg "read_list_for" d7
 d_read_record : Fd K mg "read_record" eG
 d_read_entry : Fd K mg "read_entry" fD
 d_read_file : Fd K mg "read_file" hG
 d_read_stmt : Fd K mg "read_stmt" i5
 d_read_load : Fd K mg "read_load" gD
 d_read_given_name : Fd K mg "read_given_name" cu
 d_read_def : Fd K mg "read_def" jc
 d_read_params : Fd K mg "read_params" el
 d_read_param : Fd K mg "read_param" fW
 d_read_block : Fd K mg "read_block" fN
 d_read_if : Fd K mg "read_if" kr
 d_read_for : Fd K mg "read_for" iN
 d_read_return : Fd K mg "read_return" eO
 d_read_giving : Fd K mg "read_giving" eL
 d_read_bare : Fd K mg "read_bare" gz
 d_read_text : Fd K mg "read_text" gM
 d_same : Fd K mg "same" sD
 m_seen : Mh K A.rdr "seen" "Reader.seen" eM
 m_sees : Mh K A.rdr "sees" "Reader.sees" eJ
 m_sees_giving : Mh K A.rdr "sees_giving" "Reader.sees_giving" bT
 m_step : Mh K A.rdr "step" "Reader.step" em
 m_take : Mh K A.rdr "take" "Reader.take" et
 m_enter : Mh K A.rdr "enter" "Reader.enter" dJ
 m_leave : Mh K A.rdr "leave" "Reader.leave" dz
 i_Token : Ini K mg "Token" "Token.__init__" A.tok cI
 i_Reader : Ini K mg "Reader" "Reader.__init__" A.rdr cz
 i_Tree : Ini K mg "Tree" "Tree.__init__" A.tree d9
 x_TokenFault : qz K mg A.R "TokenFault" "TokenFault.__init__" bK
 x_SyntaxFault : qz K mg A.R "SyntaxFault" "SyntaxFault.__init__" bB
 x_DeepFault : qz K mg A.R "DeepFault" "DeepFault.__init__" bV
 x_PlaceFault : qz K mg A.R "PlaceFault" "PlaceFault.__init__" bL
 x_TwiceFault : qz K mg A.R "TwiceFault" "TwiceFault.__init__" bO
 x_BehindFault : qz K mg A.R "BehindFault" "BehindFault.__init__" bA
 x_LongFault : qz K mg A.R "LongFault" "LongFault.__init__" bW
 x_R : ∃ f fd, jZ K A.R "__init__" f /\ Fun K "__init__" "Refusal.__init__" ck f fd
section
variable {P : Program} {w : World} {K : Frag} {mg : Str -> Option Value} {base : Heap} {A : Ad}
theorem vac {x : Str} {st : Stmt} {k c : Nat} {G : Nat -> Nat -> List Tk -> Vablda.Got} (F : Fd K mg x st) (hb : ∀ (kV doc pm : Value) (an : Option Addr) (cdv ct : Value) (us : List Value), us.length = ["reader"].length -> bindArgs (fnOf x x (bg st) (aT st) (ad st) .none kV doc pm an cdv ct) ⟨us, []⟩ = pure ((["reader"] : List Str).zip us)) : Fn P w K mg base x k ["reader"] (spG K A 0 G c) := by
 obtain ⟨f, fd, F, hm⟩ := F
 have no : ∀ vs H Q E, ¬ spG K A 0 G c vs H Q E := fun vs H Q E h => by
  unfold spG sp1 at h
  split at h
  ·obtain ⟨_, _, d, _, _, _, _, hd, _⟩ := h; omega
  ·exact h
 exact ⟨f, fd, hm, ⟨fun vs H Q E h => (no _ _ _ _ h).elim, fun _ _ _ _ _ _ _ _ _ _ _ _ _ h => (no _ _ _ _ h).elim⟩, F.kp, F.binds hb⟩
theorem wg (D : Az P w K mg A) : Fn P w K mg base "read_text" 228 ["text"] (mJ K A) := by
 have T := D.T
 obtain ⟨fR, fdR, cR, FR⟩ := D.x_R
 have oR := sy (P := P) (w := w) (mg := mg) (base := base) FR
 have bR := FR.binds (ps := ["self", "number", "position"]) fun _ _ _ _ _ _ us hl => match us, hl with | [_, _, _], _ => rfl
 have aR : Rz P w K mg base "TokenFault" A.R 3 2 := by
  obtain ⟨C, f, fd, h1, h2, h3, h4, h5⟩ := D.x_TokenFault
  exact ⟨C, f, fd, 2, by decide, h1, h2, h3, h4, nN h5 T.gR cR oR bR h3, h5.binds fun _ _ _ _ _ _ us hl => match us, hl with | [_, _], _ => rfl⟩
 have bH : Rz P w K mg base "SyntaxFault" A.R 3 3 := by
  obtain ⟨C, f, fd, h1, h2, h3, h4, h5⟩ := D.x_SyntaxFault
  exact ⟨C, f, fd, 2, by decide, h1, h2, h3, h4, lO h5 T.gR cR oR bR h3, h5.binds fun _ _ _ _ _ _ us hl => match us, hl with | [_, _], _ => rfl⟩
 have ii : Rz P w K mg base "DeepFault" A.R 3 4 := by
  obtain ⟨C, f, fd, h1, h2, h3, h4, h5⟩ := D.x_DeepFault
  exact ⟨C, f, fd, 2, by decide, h1, h2, h3, h4, pM h5 T.gR cR oR bR h3, h5.binds fun _ _ _ _ _ _ us hl => match us, hl with | [_, _], _ => rfl⟩
 have fG : Rz P w K mg base "PlaceFault" A.R 3 5 := by
  obtain ⟨C, f, fd, h1, h2, h3, h4, h5⟩ := D.x_PlaceFault
  exact ⟨C, f, fd, 2, by decide, h1, h2, h3, h4, nG h5 T.gR cR oR bR h3, h5.binds fun _ _ _ _ _ _ us hl => match us, hl with | [_, _], _ => rfl⟩
 have fo : Rz P w K mg base "TwiceFault" A.R 3 6 := by
  obtain ⟨C, f, fd, h1, h2, h3, h4, h5⟩ := D.x_TwiceFault
  exact ⟨C, f, fd, 2, by decide, h1, h2, h3, h4, nJ h5 T.gR cR oR bR h3, h5.binds fun _ _ _ _ _ _ us hl => match us, hl with | [_, _], _ => rfl⟩
 have eD : Rz P w K mg base "BehindFault" A.R 3 7 := by
  obtain ⟨C, f, fd, h1, h2, h3, h4, h5⟩ := D.x_BehindFault
  exact ⟨C, f, fd, 2, by decide, h1, h2, h3, h4, my h5 T.gR cR oR bR h3, h5.binds fun _ _ _ _ _ _ us hl => match us, hl with | [_, _], _ => rfl⟩
 have gY : Rz0 P w K mg base "LongFault" A.R 227 1 0 := by
  obtain ⟨C, f, fd, h1, h2, h3, h4, h5⟩ := D.x_LongFault
  exact ⟨C, f, fd, 2, by decide, h1, h2, h3, h4, pb h5 T.gR cR oR bR h3, h5.binds fun _ _ _ _ _ _ us hl => match us, hl with | [_], _ => rfl⟩
 have bi : Mkf P w K mg base "Token" A.tok 2 4 oX := by
  obtain ⟨h1, f, fd, h2, h3⟩ := D.i_Token
  exact ⟨1, ["self", "kind", "place", "after", "data"], by decide, h1, f, fd, h2, vy h3 T, h3.binds fun _ _ _ _ _ _ us hl => match us, hl with | [_, _, _, _, _], _ => rfl⟩
 have lX : Mkf P w K mg base "Reader" A.rdr 2 1 wx := by
  obtain ⟨h1, f, fd, h2, h3⟩ := D.i_Reader
  exact ⟨1, ["self", "tokens"], by decide, h1, f, fd, h2, u6 h3 T, h3.binds fun _ _ _ _ _ _ us hl => match us, hl with | [_, _], _ => rfl⟩
 have kK : Mkf P w K mg base "Tree" A.tree 2 4 oB := by
  obtain ⟨h1, f, fd, h2, h3⟩ := D.i_Tree
  exact ⟨1, ["self", "kind", "place", "data", "parts"], by decide, h1, f, fd, h2, xG h3 T, h3.binds fun _ _ _ _ _ _ us hl => match us, hl with | [_, _, _, _, _], _ => rfl⟩
 have cp := oY (P := P) (w := w) (base := base) (k := 0) T D.d_is_letter
 have ba := qI (P := P) (w := w) (base := base) (k := 0) T D.d_is_digit
 have dQ := oU (P := P) (w := w) (base := base) (k := 1) T D.d_hex_worth (ba.mono (by decide))
 have bu := sx (P := P) (w := w) (base := base) (k := 0) T D.d_byte_at
 have fU := nB (P := P) (w := w) (base := base) (k := 0) T D.d_remark_end
 have iP := qO (P := P) (w := w) (base := base) (k := 0) T D.d_codes_of
 have ju := qW (P := P) (w := w) (base := base) (k := 0) T D.d_worth_of
 have i7 := pq (P := P) (w := w) (base := base) (k := 1) T D.d_kept_word (iP.mono (by decide))
 have dv := lx (P := P) (w := w) (base := base) (k := 2) T D.d_escaped_byte (bu.mono (by decide)) (dQ.mono (by decide))
 have il := oP (P := P) (w := w) (base := base) (k := 3) T D.d_told_byte (bu.mono (by decide)) (dv.mono (by decide))
 have fe := nT (P := P) (w := w) (base := base) (k := 0) T D.d_told_width
 have jh := qH (P := P) (w := w) (base := base) (k := 1) T D.d_word_end (cp.mono (by decide)) (ba.mono (by decide))
 have kP := rX (P := P) (w := w) (base := base) (k := 3) T D.d_word_at (jh.mono (by decide)) (aR.mono (by decide)) (i7.mono (by decide)) (bi.mono (by decide))
 have gE := pd (P := P) (w := w) (base := base) (k := 3) T D.d_number_at (ba.mono (by decide)) (ju.mono (by decide)) (aR.mono (by decide)) (bi.mono (by decide))
 have gC := oZ (P := P) (w := w) (base := base) (k := 4) T D.d_quoted_at (bu.mono (by decide)) (il.mono (by decide)) (fe.mono (by decide)) (aR.mono (by decide)) (bi.mono (by decide))
 have kN := rW (P := P) (w := w) (base := base) (k := 3) T D.d_sign_at (aR.mono (by decide)) (bi.mono (by decide))
 have jj := rL (P := P) (w := w) (base := base) (k := 5) T D.d_token_at (cp.mono (by decide)) (ba.mono (by decide)) (kP.mono (by decide)) (gE.mono (by decide)) (gC.mono (by decide)) (kN.mono (by decide))
 have vg := Ae (P := P) (w := w) (base := base) (k := 6) T D.d_cut (fU.mono (by decide)) (jj.mono (by decide)) (bi.mono (by decide))
 have aK := mz (P := P) (w := w) (base := base) (k := 0) T D.m_seen
 have ag := mE (P := P) (w := w) (base := base) (k := 0) T D.m_sees
 have aW := gk (P := P) (w := w) (base := base) (k := 1) T D.m_sees_giving (ag.mono (by decide))
 have ak := mM (P := P) (w := w) (base := base) (k := 0) T D.m_step
 have ah := mK (P := P) (w := w) (base := base) (k := 3) T D.m_take (ag.mono (by decide)) (aK.mono (by decide)) (bH.mono (by decide)) (ak.mono (by decide))
 have aB := ly (P := P) (w := w) (base := base) (k := 4) T D.m_enter (ah.mono (by decide)) (ii.mono (by decide))
 have au := lu (P := P) (w := w) (base := base) (k := 4) T D.m_leave (ah.mono (by decide))
 have fS := wI (P := P) (w := w) (base := base) (k := 2) T D.d_leaf (kK.mono (by decide))
 have ay := xH (P := P) (w := w) (base := base) (k := 2) T D.d_node (kK.mono (by decide))
 have aO := iL (P := P) (w := w) (base := base) (k := 3) T D.d_node_of_several (ay.mono (by decide))
 have aP := pS (P := P) (w := w) (base := base) (k := 4) T D.d_read_name (ah.mono (by decide)) (fS.mono (by decide))
 have fV := nP (P := P) (w := w) (base := base) (k := 0) T D.d_has_giving
 have cZ := kT (P := P) (w := w) (base := base) (k := 1) T D.d_behind_faults (fV.mono (by decide))
 have dE := lw (P := P) (w := w) (base := base) (k := 0) T D.d_twice_faults
 have dL := lp (P := P) (w := w) (base := base) (k := 0) T D.d_is_misplaced
 have m7 := u7 (P := P) (w := w) (base := base) (k := 3) T D.d_refuse (fG.mono (by decide)) (fo.mono (by decide)) (eD.mono (by decide))
 have cJ := kf (P := P) (w := w) (base := base) (k := 0) T D.d_names_given_by
 have bN := fP (P := P) (w := w) (base := base) (k := 1) T D.d_names_at_file_level (cJ.mono (by decide))
 have hU := pA (P := P) (w := w) (base := base) (k := 2) T D.d_labels_of (bN.mono (by decide))
 have gU := pK (P := P) (w := w) (base := base) (k := 3) T D.d_faults_in (dL.mono (by decide)) (dE.mono (by decide)) (hU.mono (by decide)) (cZ.mono (by decide))
 have d6 := kC (P := P) (w := w) (base := base) (k := 4) T D.d_check_placing (gU.mono (by decide)) (m7.mono (by decide))
 have vb : ∀ (x : Str) (st : Stmt), True := fun _ _ => trivial
 have iw : ∀ j k, 6 <= k -> Fn P w K mg base "read_given_name" k ["reader"] (spG K A j eA 0) := fun j k hk => (iR (j := j) (k := 5) T D.d_read_given_name (aP.mono (by decide))).mono (by omega)
 have mv : ∀ k0, 3 <= k0 -> Fn P w K mg base "read_behind_first" (k0 + 1) ["reader", "first", "read_part"] (gI P w K mg base A k0) := fun k0 hk => gS (k := k0) T D.d_read_behind_first (ag.mono (by omega)) (ak.mono (by omega)) (Nat.le_refl _)
 have vF : ∀ k0, 3 <= k0 -> Fn P w K mg base "read_row" (k0 + 2) ["reader", "closing", "read_part"] (qS P w K mg base A k0) := fun k0 hk => qJ (k := k0 + 1) T D.d_read_row (ag.mono (by omega)) (mv k0 hk) (by omega)
 have tS : ∀ k0, 5 <= k0 -> Fn P w K mg base "read_signs" (k0 + 1) ["reader", "kind", "signs", "read_part"] (lI P w K mg base A k0) := fun k0 hk => nW (k := k0) T D.d_read_signs (aK.mono (by omega)) (ak.mono (by omega)) (ay.mono (by omega)) (aO.mono (by omega)) (Nat.le_refl _)
 have ro : ∀ k0, 5 <= k0 -> Fn P w K mg base "read_joined" (k0 + 1) ["reader", "kind", "word", "read_part"] (jA P w K mg base A k0) := fun k0 hk => lP (k := k0) T D.d_read_joined (ag.mono (by omega)) (ak.mono (by omega)) (aO.mono (by omega)) (Nat.le_refl _)
 have exprs : ∀ j, Fn P w K mg base "read_expr" (3 + 17 * j) ["reader"] (spG K A j (gW .expr) 10) := by
  intro j
  induction j with
  | zero => exact vac D.d_read_expr fun _ _ _ _ _ _ us hl => match us, hl with | [_], _ => rfl
  | succ j ih =>
    have hL9 : j = 0 ∨ 5 <= 3 + 17 * j := by omega
    have hL3 : 3 <= 3 + 17 * j := by omega
    generalize hL : 3 + 17 * j = L at ih hL9 hL3
    have Bu : Fn P w K mg base "read_arg" (L + 1) ["reader"] (spG K A j xI 10) := by
     rcases hL9 with rfl | hL9
     ·exact vac D.d_read_arg fun _ _ _ _ _ _ us hl => match us, hl with | [_], _ => rfl
     ·exact qw (j := j) (k := L) T D.d_read_arg (aW.mono (by omega)) ih (aP.mono (by omega)) (ah.mono (by omega)) (ay.mono (by omega))
    have wP : Fn P w K mg base "read_entry" (L + 1) ["reader"] (spG K A j pO 0) := by
     rcases hL9 with rfl | hL9
     ·exact vac D.d_read_entry fun _ _ _ _ _ _ us hl => match us, hl with | [_], _ => rfl
     ·exact nM (j := j) (k := L) T D.d_read_entry (aP.mono (by omega)) (ah.mono (by omega)) ih (ay.mono (by omega))
    have yH := qj (j := j) (k := L + 3) (k0 := L + 1) T D.d_read_call (aB.mono (by omega)) (vF (L + 1) (by omega)) (au.mono (by omega)) (ay.mono (by omega)) Bu
    have wo := lL (j := j) (k := L + 3) (k0 := L + 1) T D.d_read_record (aB.mono (by omega)) (vF (L + 1) (by omega)) (au.mono (by omega)) (ay.mono (by omega)) wP
    have xu := ny (j := j) (k := L + 3) T D.d_read_index (aB.mono (by omega)) (ih.mono (by omega)) (au.mono (by omega)) (ay.mono (by omega))
    have CO := gf (j := j) (k := L + 3) T D.d_read_parenthesized (aB.mono (by omega)) (ih.mono (by omega)) (au.mono (by omega))
    have yx := kW (j := j) (k := L + 2) T D.d_read_list_for (ah.mono (by omega)) (aP.mono (by omega)) (ih.mono (by omega)) (ag.mono (by omega)) (ak.mono (by omega)) (au.mono (by omega)) (ay.mono (by omega))
    have yz := pz (j := j) (k := L + 3) (k0 := L) T D.d_read_list (aB.mono (by omega)) (ag.mono (by omega)) (yx.mono (by omega)) ((mv L (by omega)).mono (by omega)) (au.mono (by omega)) (ay.mono (by omega)) (ih.mono (by omega)) ih
    have Cv := iy (j := j) (k := L + 4) T D.d_read_behind_atom (ag.mono (by omega)) yH xu (ah.mono (by omega)) (aP.mono (by omega)) (ay.mono (by omega))
    have zq := pQ (j := j) (k := L + 4) T D.d_read_atom (aK.mono (by omega)) CO yz wo (bH.mono (by omega)) (ak.mono (by omega)) (fS.mono (by omega))
    have zH := pW (j := j) (k := L + 5) T D.d_read_post zq (aK.mono (by omega)) Cv (aO.mono (by omega))
    have uV := mj (j := j + 1) (k := L + 6) T D.d_read_signed (ag.mono (by omega)) (ak.mono (by omega)) zH (ay.mono (by omega))
    have zz := qg (j := j + 1) (k := L + 8) (k0 := L + 7) T D.d_read_prod (tS (L + 7) (by omega)) uV
    have Bj := qN (j := j + 1) (k := L + 10) (k0 := L + 9) T D.d_read_sum (tS (L + 9) (by omega)) zz
    have At := pZ (j := j + 1) (k := L + 11) T D.d_read_comp Bj (aK.mono (by omega)) (ak.mono (by omega)) (ay.mono (by omega))
    have Bq := r9 (j := j + 1) (k := L + 12) T D.d_read_not (ag.mono (by omega)) (ak.mono (by omega)) At (ay.mono (by omega))
    have BI := rh (j := j + 1) (k := L + 14) (k0 := L + 13) T D.d_read_and (ro (L + 13) (by omega)) Bq
    have Av := pP (j := j + 1) (k := L + 16) (k0 := L + 15) T D.d_read_expr (ro (L + 15) (by omega)) BI
    exact Av.mono (by omega)
 have stmts : ∀ j, j <= 13 -> Fn P w K mg base "read_stmt" (5 + 17 * j) ["reader"] (spG K A j (gW .stmt) 11) := by
  intro j
  induction j with
  | zero => intro _; exact vac D.d_read_stmt fun _ _ _ _ _ _ us hl => match us, hl with | [_], _ => rfl
  | succ j ih =>
    intro hj
    have ih := ih (by omega)
    generalize hM : 5 + 17 * j = M at ih
    have ex := exprs (j + 1)
    have pi := nQ (j := j) (k := M) T D.d_read_block (aB.mono (by omega)) (ag.mono (by omega)) ih (au.mono (by omega)) (ay.mono (by omega))
    have xp := nH (j := j) (k := 6 + 17 * j) T D.d_read_param (iw j _ (by omega)) (ag.mono (by omega)) (ak.mono (by omega)) ((exprs j).mono (by omega)) (ay.mono (by omega))
    have vn := nu (j := j) (k := 6 + 17 * j + 3) (k0 := 6 + 17 * j + 1) T D.d_read_params (aB.mono (by omega)) (vF (6 + 17 * j + 1) (by omega)) (au.mono (by omega)) (ay.mono (by omega)) xp
    have Cz := rM (j := j + 1) (k := 20 + 17 * j) T D.d_read_def (ah.mono (by omega)) (iw _ _ (by omega)) (vn.mono (by omega)) (pi.mono (by omega)) (ay.mono (by omega))
    have Dc := sJ (j := j + 1) (k := 20 + 17 * j) T D.d_read_if (ah.mono (by omega)) (ex.mono (by omega)) (pi.mono (by omega)) (ag.mono (by omega)) (ak.mono (by omega)) (ay.mono (by omega))
    have BP := rl (j := j + 1) (k := 20 + 17 * j) T D.d_read_for (ah.mono (by omega)) (iw _ _ (by omega)) (ex.mono (by omega)) (pi.mono (by omega)) (ay.mono (by omega))
    have AY := pD (j := j + 1) (k := 20 + 17 * j) (k0 := 6) T D.d_read_load (ah.mono (by omega)) (fS.mono (by omega)) ((mv 6 (by omega)).mono (by omega)) (ay.mono (by omega)) (iw _ _ (by omega)) (iw _ _ (by omega))
    have vN := mN (j := j + 1) (k := 20 + 17 * j) T D.d_read_return (ah.mono (by omega)) (ag.mono (by omega)) (ex.mono (by omega)) (ay.mono (by omega))
    have ww := mX (j := j + 1) (k := 20 + 17 * j) T D.d_read_giving (iw _ _ (by omega)) (ah.mono (by omega)) (ex.mono (by omega)) (ay.mono (by omega))
    have zI := qp (j := j + 1) (k := 20 + 17 * j) T D.d_read_bare (ex.mono (by omega)) (ah.mono (by omega)) (ay.mono (by omega))
    have B5 := qa (j := j + 1) (k := 21 + 17 * j) T D.d_read_stmt (ag.mono (by omega)) (aW.mono (by omega)) (AY.mono (by omega)) (Cz.mono (by omega)) (Dc.mono (by omega)) (BP.mono (by omega)) (vN.mono (by omega)) (ww.mono (by omega)) (zI.mono (by omega))
    exact B5.mono (by omega)
 have zy := pE (k := 226) T D.d_read_file (ag.mono (by omega)) ((stmts 13 (by omega)).mono (by omega)) (ay.mono (by omega))
 have Ah := qd (k := 227) T D.d_read_text gY zy (lX.mono (by omega)) (vg.mono (by omega)) (d6.mono (by omega))
 exact Ah
theorem Bd (D : Az P w K mg A) {fa : Addr} (hfa : mg "same" = some (.ref fa)) : ∃ fd : FuncData, (∀ (s : Shared) (us : List Value), us.length = (["a", "b"] : List Str).length -> BindsTo s fd ⟨us, []⟩ ((["a", "b"] : List Str).zip us)) /\
  ∀ base : Heap, K.In base -> base.Ns mainGlobals mg -> FnOk P w K mg base (CXR P w) 229 fa fd ["a", "b"] (kO K) := by
 obtain ⟨g, fd, F, hm⟩ := D.d_same
 have e := hfa.symm.trans hm
 cases e
 have ok : ∀ base : Heap, FnOk P w K mg base (CXR P w) 229 fa fd ["a", "b"] (kO K) := fun base => by
  have gL := oO (P := P) (w := w) (base := base) (k := 0) D.T D.d_are_alike
  have iS := rB (P := P) (w := w) (base := base) (k := 1) D.T D.d_are_same (gL.mono (by decide))
  exact wz D.T F (wg D) (iS.mono (by decide))
 obtain ⟨oc, od, kV, doc, pm, an, cdv, ct, osl, rfl, lk, hcd⟩ := F.ex
 exact ⟨_, fun s us hu => match us, hu with | [_, _], _ => .of_eq rfl, fun base _ _ => ok base⟩
end
end L2
namespace L2
open PySem PySem.Spec PyProof.Rows
open PySem.W (Codec)
theorem qR {l : List Int} (h : ∀ n ∈ l, 0 <= n) : bts (l.map Int.toNat) = l.map V.int := by
 unfold bts
 rw [List.map_map]
 refine List.map_congr_left fun n hn => ?_
 show V.int ((n.toNat : Nat) : Int) = V.int n
 have := h n hn
 congr 1; omega
theorem qx {l : List Int} (h : ∀ n ∈ l, 0 <= n /\ n <= 255) : VabldaNeutral.text l = some (l.map Int.toNat) := by
 have hb : NeutralIO.bytes l = true := by
  unfold NeutralIO.bytes
  rw [List.all_eq_true]
  intro n hn
  have := h n hn
  simp [this.1, this.2]
 unfold VabldaNeutral.text
 rw [if_pos hb]
theorem wE {l m : List Int} (h : ∀ n ∈ l, 0 <= n /\ n <= 255) (h' : ∀ n ∈ m, 0 <= n /\ n <= 255) : PyVablda.same l m = tj (l.map Int.toNat) (m.map Int.toNat) := by
 have hc : VabldaNeutral.callOf [[3], l, m] = some (.same (l.map Int.toNat) (m.map Int.toNat)) := by
  show (VabldaNeutral.text l).bind (fun a => (VabldaNeutral.text m).map (Vablda.Call.same a)) = _
  rw [qx h, qx h']; rfl
 unfold PyVablda.same VabldaNeutral.step
 rw [hc]
 show VabldaNeutral.encode (match Vablda.read (l.map Int.toNat) with
  | .error e => Vablda.faultNo e
  | .ok x => (match Vablda.read (m.map Int.toNat) with
    | .error e => Vablda.no (-((e.kind : Nat) : Int) - 20)
    | .ok y => { value := if Vablda.same x y = true then 1 else 0 })) = _
 unfold tj
 cases Vablda.read (l.map Int.toNat) with
 | error e => rfl
 | ok x =>
   cases Vablda.read (m.map Int.toNat) with
   | error e => rfl
   | ok y => rfl
theorem rR {r : PySem.W.OpenSpec} {k : Nat} {q : Program} {loose : List Str} {XP : (Str -> Option Value) -> Heap -> Prop} {YP : World -> Heap -> Prop} {d : DefRec} {K : Params -> Frag} {CX : World -> CXT} {ps : List Str} {sp : Frag -> Sp}
  (hwell : r.wellSaid = true) (hdf : d.params.defaults = []) (hlen : r.args.length = ps.length) (hr : Room k callerA)
  (hY : ∀ (w : World) (h : Heap), YP w h -> (K w.params).In h)
  (F : ∀ (w : World) (mg : Str -> Option Value) (fa : Addr) (h : Heap), YP w h -> (K w.params).In h -> h.Ns mainGlobals mg -> mg d.name = some (.ref fa) ->
   ∃ fd : FuncData, (∀ (s : Shared) (us : List Value), us.length = ps.length -> BindsTo s fd ⟨us, []⟩ (ps.zip us)) /\
     ∀ base : Heap, (K w.params).In base -> base.Ns mainGlobals mg -> FnOk r.prog w (K w.params) mg base (CX w) k fa fd ps (sp (K w.params)))
  (hsp : ∀ (K : Frag) (H : Hp) (xs : List V) (a : Codec.denoteAll r.args), qD H -> Codec.withinAll r.args a = true -> Codec.app r.args r.asked a = true -> ge K H xs (Codec.encAll r.args a) ->
   sp K xs H (fun v H' => Dw K H' v (r.ret.enc (Codec.app r.args r.f a))) fun _ _ _ => False)
  (hCX : ∀ (w : World) (H : Hp) (s : Shared) (e : Value) (s' : Shared), CX w [] H s (fun _ _ _ => False) e s' -> False) :
  PySem.W.WalkOS q loose XP YP r d [] (fun f vs => PySem.call f vs) :=
 uD (K := K) (CX := CX) (sp := fun w => sp (K w.params)) hwell hdf hlen hr hY F (fun w H xs a h1 h2 h3 h4 => hsp (K w.params) H xs a h1 h2 h3 h4) hCX
theorem Dj {P : Program} (w : World) (H : Hp) (s : Shared) (e : Value) (s' : Shared) (h : CXR P w [] H s (fun _ _ _ => False) e s') : False := by
 obtain ⟨_, _, _, _, _, _, _, _, _, _, _, _, z⟩ := h
 exact z
end L2
namespace L2
open PySem PySem.Spec PyProof.Rows
section
variable {K : Frag} {h : Heap} {mg : Str -> Option Value} {x qual m : Str} {st : Stmt} {f C a : Addr} {oc kV dc pm cd ct : Value} {od an : Option Addr} {sl : Array (Option Value)}
theorem aQ (X : K.In h) (G : h.Ns mainGlobals mg) (a : nsIn K mainGlobals x = some (some (.ref f))) (l : K.lookup f = some ⟨oc, od, .func (fnOf x x (bg st) (aT st) (ad st) .none kV dc pm an cd ct), sl⟩) (c : codeIn K cd x = true) (k : keepIn K (.ref f) = true) : Fd K mg x st :=
 ⟨f, _, me l c k, PySem.W.mg_of X G a⟩
theorem sB (a : findIn K (.ref C) m = some (some (.ref f))) (i : isFn K (.ref f) = true) (l : K.lookup f = some ⟨oc, od, .func (fnOf m qual (bg st) (aT st) (ad st) .none kV dc pm an cd ct), sl⟩) (c : codeIn K cd qual = true) (k : keepIn K (.ref f) = true) : Mh K C m qual st :=
 ⟨f, _, me l c k, a, i, k⟩
theorem we (X : K.In h) (G : h.Ns mainGlobals mg) (aC : nsIn K mainGlobals x = some (some (.ref C))) (mk : makesIn K C = true) (kc : keepIn K (.ref C) = true) (a : findIn K (.ref C) "__init__" = some (some (.ref f))) (i : isFn K (.ref f) = true) (l : K.lookup f = some ⟨oc, od, .func (fnOf "__init__" qual (bg st) (aT st) (ad st) .none kV dc pm an cd ct), sl⟩) (c : codeIn K cd qual = true) (k : keepIn K (.ref f) = true) : Ini K mg x qual C st :=
 ⟨PySem.W.mg_of X G aC, f, _, ⟨mk, a, i, kc⟩, me l c k⟩
theorem iZ {R : Addr} (X : K.In h) (G : h.Ns mainGlobals mg) (aC : nsIn K mainGlobals x = some (some (.ref C))) (xc : rj K C = true) (sa : findIn K (.ref C) "__setattr__" = some (some (.builtin "object.__setattr__"))) (ga : findIn K (.ref C) "__getattribute__" = some (some (.builtin "BaseException.__getattribute__"))) (gt : findIn K (.ref C) "__getattr__" = some none)
  (n1 : findIn K (.ref C) "number" = some none) (n2 : findIn K (.ref C) "position" = some none) (mr : mroIn K C (.ref R) = some true) (kc : keepIn K (.ref C) = true)
  (a : findIn K (.ref C) "__init__" = some (some (.ref f))) (i : isFn K (.ref f) = true) (l : K.lookup f = some ⟨oc, od, .func (fnOf "__init__" qual (bg st) (aT st) (ad st) .none kV dc pm an cd ct), sl⟩) (c : codeIn K cd qual = true) (k : keepIn K (.ref f) = true) : qz K mg R x qual st :=
 ⟨C, f, _, PySem.W.mg_of X G aC, ⟨⟨xc, sa, ga, gt⟩, a, i, kc⟩, ⟨⟨xc, sa, ga, gt⟩, n1, n2⟩, mr, me l c k⟩
theorem aH {n : Int} {t : PySem.Tok} (X : K.In h) (G : h.Ns mainGlobals mg) (a : nsIn K mainGlobals x = some (some (.int n t))) : GC mg x (.int n) := ⟨_, PySem.W.mg_of X G a, t, rfl⟩
theorem gB (X : K.In h) (G : h.Ns mainGlobals mg) (e : nsIn K mainGlobals x = some (some (.ref a))) : GC mg x (.ref a) := ⟨_, PySem.W.mg_of X G e, rfl⟩
theorem vp (X : K.In h) (G : h.Ns mainGlobals mg) (e : nsIn K mainGlobals x = some none) : mg x = none := PySem.W.mg_none_of X G e
end
theorem Dq {kvs : List (List Key × V)} {xs : List (List Key × Addr × Value)} (r : Paired (fun (p : List Key × V) (q : List Key × Addr × Value) => p.1 = q.1 /\ RelV p.2 q.2.2) kvs xs) (k : List Key) : RelO (aZ kvs k) ((atKey xs k).map (·.2)) := by
 induction r with
 | nil => exact True.intro
 | @cons p q ps qs h t ih =>
   obtain ⟨h1, h2⟩ := h
   by_cases e : p.1 = k
   ·have e' : q.1 = k := h1.symm.trans e
    have b : atKey (q :: qs) k = some q.2 := by simp [atKey, List.find?_cons, e']
    rw [bD e, b]; exact h2
   ·have e' : ¬ q.1 = k := fun z => e (h1.trans z)
    have b : atKey (q :: qs) k = atKey qs k := by simp [atKey, List.find?_cons, e']
    rw [bF e, b]; exact ih
theorem wA {P : Program} {w : World} {K : Frag} {a : Addr} {kvs : List (List Key × V)} {es : Array DictEntry} {ep : Nat} (xs : List (List Key × Addr × Value)) (l : K.lookup a = some { cls := .type "dict", data := .dict es ep }) (he : es.toList = xs.map (entryOfKey (tupleKind (b8 P w))))
  (hk : ∀ x ∈ xs, ∃ (o : Obj) (its : List Value) (n : Nat), K.lookup x.2.1 = some o /\ o.cls = .type "tuple" /\ o.data = .seq its.toArray n /\ Vals (x.1.map kV) its) (nd : (xs.map (·.1)).Nodup) (r : Paired (fun (p : List Key × V) (q : List Key × Addr × Value) => p.1 = q.1 /\ RelV p.2 q.2.2) kvs xs) (nm : (a == sysModules) = false) : vU P w K a kvs :=
 ⟨fun h X => ⟨xs, ⟨_, es, ep, X _ _ l, ⟨rfl, rfl, rfl⟩, rfl, he, fun x hx => by
  obtain ⟨o, its, n, h1, h2, h3, h4⟩ := hk x hx
  exact ⟨o, its.toArray, n, X _ _ h1, h2, h3, by simpa using kM h4⟩, nd⟩, Dq r⟩, nm⟩
end L2
noncomputable section
namespace Hd
open PySem PySem.W
open L2 (aG bg aT ad)
abbrev N : Value := .none
abbrev S (s : String) (t : Nat) : Value := .str (Str.ofString s) t
abbrev I (i : Int) (t : Nat) : Value := .int i t
abbrev R (a : Nat) : Value := .ref a
abbrev K (P : Params) (s : String) (t : Nat) (v : Value) : DictEntry := ⟨PyData.keyHash P (Str.ofString s), .str (Str.ofString s) t, v⟩
abbrev tu (l : List Value) : Obj := ⟨.type "tuple", none, .seq l.toArray 0, #[]⟩
abbrev fl (l : List Value) : Obj := ⟨.none, none, .fields l.toArray, #[]⟩
abbrev cd (l : List Value) : Obj := ⟨.type "code", none, .fields l.toArray, #[]⟩
abbrev di (l : List DictEntry) (n : Nat) : Obj := ⟨.type "dict", none, .dict l.toArray n, #[]⟩
abbrev pw : Program := PySem.Challenge.pw_buildtext_s04_same
def top (i : Nat) : Stmt := pw.main.body.getD i (.Pass ⟨0, 0, 0, 0⟩)
def hd (s : Stmt) : Str × Int := match s with
 | .FunctionDef n _ _ _ _ _ _ _ _ p => (n, p.line)
 | _ => (.empty, 0)
abbrev fn (s : Stmt) (q : Str) (g : Addr) (m c : Value) : FuncData := { name := (hd s).1, qualname := q, params := bg s, body := .stmts (aT s), scope := ad s, globals := g, closure := [], defaults := .none, kwdefaults := .none, pyModule := m, code := c }
abbrev fu (s : Stmt) (q : Str) (m : Value) (c : Addr) : Obj := ⟨.type "function", none, .func (fn s q 3 m (.ref c)), #[]⟩
abbrev fz (s : Stmt) (q : Str) : Obj := ⟨.none, none, .func (fn s q 0 .none .none), #[]⟩
abbrev co (n q : Str) (t : Nat) (ln na fl : Int) (a : Addr) (b : Bool) (c : Addr) (x y u : Value) (tl : Nat) : Obj :=
 cd [.str n t, .str q (t + 1), S "/claim/cut.py" (t + 2), I ln 0, I na 0, I 0 0, I 0 0, I fl 0, R a, .bool b, I 181 0, R c, N, x, y, u, I tl 0, I ln 0, S "/claim/cut.py" (tl + 1)]
abbrev tz : Obj := tu []
abbrev f0 : Obj := fl []
abbrev pr : Obj := ⟨.type "builtin_function_or_method", none, .fields #[.builtin "type.__prepare__", .type "type"], #[]⟩
abbrev ic (c : Addr) : Obj := ⟨.type "builtin_function_or_method", none, .fields #[.builtin "object.__init_subclass__", R c], #[]⟩
abbrev su (c : Addr) : Obj := ⟨.type "super", none, .fields #[R c, R c, R c], #[]⟩
abbrev fr (c l : Addr) (m : Value) : Obj := ⟨.type "frame", none, .plain, #[some (R c), some (R 3), some (R l), none, some m, none, some (R 0)]⟩
abbrev ty (n : String) (b m : List Value) (ns : Addr) (sub : List Value) (b0 : Option Value) (t1 t2 : Nat) (nw : String) : Obj :=
 ⟨.type "type", none, .cls { name := .ofString n, bases := b, mro := m, ns := ns, qualname := .ofString n, subclasses := sub }, #[b0, none, some (S n t1), some (S n t2), some (.builtin nw), some (.bool true)]⟩
def nm : List String -> Nat -> List Value
 | [], _ => []
 | x :: r, t => S x t :: nm r (t + 1)
def dm (s : Stmt) (q : Str) (t : Nat) (vs : List String) (a : Addr) (m : Value) : List Obj :=
 [tz, f0, tu (nm vs (t + 3)), tz, fz s q, co (hd s).1 q t (hd s).2 (bg s).args.length 3 a true (a + 1) (R (a + 2)) (R (a + 3)) (R (a + 4)) (t + 3 + vs.length), fu s q m (a + 5)]
abbrev df (i t : Nat) (vs : List String) (a : Addr) (m : Value) : List Obj := dm (top i) (hd (top i)).1 t vs a m
abbrev at_ (l : List Obj) (i : Nat) : Obj := l.getD i tz
def ev : Bool -> List Obj -> List Obj
 | _, [] => []
 | true, x :: r => x :: ev false r
 | false, _ :: r => ev true r
def bt : Nat -> List Obj -> BT
 | 0, _ => .nil
 | _ + 1, [] => .nil
 | k + 1, x :: r => .node x (bt k (ev true r)) (bt k (ev false r))
abbrev M0 : Value := S "buildtext.comparing" 187
abbrev M1 : Value := S "buildtext.trees" 208
abbrev M2 : Value := S "buildtext.naming" 321
abbrev M3 : Value := S "buildtext.codes" 339
abbrev M4 : Value := S "buildtext.refusals" 353
abbrev M5 : Value := S "buildtext.cutting" 553
abbrev M6 : Value := S "buildtext.placing" 862
abbrev M7 : Value := S "buildtext.reader" 942
abbrev M8 : Value := S "buildtext.expressions" 1032
abbrev M9 : Value := S "buildtext.statements" 1295
abbrev M10 : Value := S "buildtext.reading" 1413
abbrev M11 : Value := S "buildtext.desk" 1425
abbrev e2 (P : Params) : List DictEntry := [K P "type.__subclasses__.Exception.0" 382 (I 99 0), K P "type.__subclasses__.Exception.n" 383 (I 1 0)]
def m2 (P : Params) (k e : Nat) : Obj := ⟨N, none, .dict ((e2 P).take k).toArray e, #[]⟩
abbrev e3 (P : Params) : List DictEntry := [K P "__doc__" 166 N, K P "__package__" 167 N, K P "__loader__" 168 (.builtin "__main__.__loader__#opaque"), K P "__spec__" 169 N, K P "__annotations__" 170 (R 6), K P "__builtins__" 171 (R 4), K P "__file__" 173 (S "/claim/cut.py" 172), K P "__cached__" 174 N, K P "are_same" 199 (R 21), K P "are_alike" 207 (R 28), K P "QUOTED" 211 (I 2 210), K P "NAME" 213 (I 3 212), K P "LABEL" 215 (I 7 214), K P "FILE" 217 (I 10 216), K P "LOAD" 219 (I 11 218), K P "DEF" 221 (I 12 220), K P "PARAMS" 223 (I 13 222), K P "PARAM" 225 (I 14 224), K P "BLOCK" 227 (I 15 226), K P "IF" 229 (I 16 228), K P "FOR" 231 (I 17 230), K P "RETURN" 233 (I 18 232), K P "GIVING" 235 (I 19 234), K P "BARE" 237 (I 20 236), K P "OR" 239 (I 30 238), K P "AND" 241 (I 31 240), K P "NOT" 243 (I 32 242), K P "SUM" 245 (I 38 244), K P "PROD" 247 (I 40 246), K P "MINUS" 249 (I 43 248), K P "POST" 251 (I 44 250), K P "NAMED_ARG" 253 (I 45 252), K P "LIST" 255 (I 48 254), K P "LIST_FOR" 257 (I 49 256), K P "RECORD" 259 (I 50 258), K P "ENTRY" 261 (I 51 260), K P "CALL" 263 (I 65 262), K P "INDEX" 265 (I 66 264), K P "DOT" 267 (I 67 266), K P "Tree" 302 (R 45), K P "leaf" 311 (R 56), K P "node" 320 (R 63), K P "names_at_file_level" 331 (R 70), K P "names_given_by" 338 (R 77), K P "QUOTE" 342 (I 34 341), K P "BACKSLASH" 344 (I 92 343), K P "LETTER_X" 346 (I 120 345), K P "codes_of" 352 (R 82), K P "Refusal" 385 (R 99), K P "LongFault" 408 (R 119), K P "TokenFault" 432 (R 138), K P "SyntaxFault" 456 (R 157), K P "DeepFault" 480 (R 176), K P "PlaceFault" 504 (R 195), K P "TwiceFault" 528 (R 214), K P "BehindFault" 552 (R 233), K P "MOST_IN_WORD" 556 (I 32 555), K P "MOST_DIGITS" 558 (I 19 557), K P "MOST_WORTH" 560 (I 1000000000000000000 559), K P "MOST_TOLD" 562 (I 1024 561), K P "LINE_FEED" 564 (I 10 563), K P "HASH" 566 (I 35 565), K P "ZERO" 568 (I 48 567), K P "NO_BYTE" 570 (I 256 569), K P "BLANKS" 575 (R 236), K P "KEPT_WORDS" 589 (R 237), K P "ESCAPES" 602 (R 238), K P "LONG_SIGNS" 621 (R 239), K P "SHORT_SIGNS" 673 (R 243), K P "Token" 708 (R 260), K P "cut" 718 (R 271), K P "remark_end" 727 (R 278), K P "token_at" 736 (R 285), K P "is_letter" 743 (R 292), K P "is_digit" 750 (R 299), K P "word_at" 761 (R 306), K P "word_end" 770 (R 313), K P "kept_word" 778 (R 320), K P "number_at" 788 (R 327), K P "worth_of" 797 (R 334), K P "quoted_at" 808 (R 341), K P "byte_at" 816 (R 348), K P "told_byte" 825 (R 355), K P "escaped_byte" 836 (R 362), K P "hex_worth" 843 (R 369), K P "told_width" 851 (R 376), K P "sign_at" 861 (R 383), K P "PLACE" 865 (I 5 864), K P "TWICE" 867 (I 6 866), K P "BEHIND" 869 (I 7 868), K P "check_placing" 877 (R 390), K P "refuse" 884 (R 397), K P "faults_in" 898 (R 404), K P "is_misplaced" 907 (R 411), K P "labels_of" 913 (R 416), K P "twice_faults" 924 (R 423), K P "behind_faults" 934 (R 430), K P "has_giving" 941 (R 437), K P "MOST_BRACKETS" 945 (I 12 944), K P "Reader" 1031 (R 503), K P "ATOM_LEAVES" 1052 (R 508), K P "COMPARISONS" 1068 (R 509), K P "SIGN_NODES" 1084 (R 510), K P "read_expr" 1091 (R 517), K P "read_and" 1098 (R 524), K P "read_joined" 1109 (R 531), K P "node_of_several" 1117 (R 538), K P "read_not" 1125 (R 545), K P "read_comp" 1135 (R 552), K P "read_sum" 1142 (R 559), K P "read_prod" 1149 (R 566), K P "read_signs" 1162 (R 573), K P "read_signed" 1170 (R 580), K P "read_post" 1178 (R 587), K P "read_behind_atom" 1186 (R 594), K P "read_name" 1195 (R 601), K P "read_call" 1204 (R 608), K P "read_row" 1213 (R 615), K P "read_behind_first" 1223 (R 622), K P "read_arg" 1231 (R 629), K P "read_index" 1240 (R 636), K P "read_atom" 1248 (R 643), K P "read_parenthesized" 1256 (R 650), K P "read_list" 1266 (R 657), K P "read_list_for" 1277 (R 664), K P "read_record" 1286 (R 671), K P "read_entry" 1294 (R 678), K P "read_file" 1304 (R 685), K P "read_stmt" 1311 (R 692), K P "read_load" 1322 (R 699), K P "read_given_name" 1329 (R 706), K P "read_def" 1339 (R 713), K P "read_params" 1348 (R 720), K P "read_param" 1357 (R 727), K P "read_block" 1366 (R 734), K P "read_if" 1376 (R 741), K P "read_for" 1386 (R 748), K P "read_return" 1395 (R 755), K P "read_giving" 1404 (R 762), K P "read_bare" 1412 (R 769), K P "MOST_BYTES" 1416 (I 4096 1415), K P "read_text" 1424 (R 776), K P "LESS_FOR_SECOND" 1428 (I 20 1427), K P "same" 1439 (R 783)]
def m3 (P : Params) (v : Value) (k e : Nat) : Obj := ⟨(.type "dict"), none, .dict (K P "__name__" 165 v :: (e3 P).take k).toArray e, #[]⟩
abbrev e12 : List Value := [(I 2 0), (I 0 0), (R 20), (I 11 0), (I 0 0), (R 27), (I 45 0), (I 0 0), (R 34), (I 52 0), (I 0 0), (R 55), (I 54 0), (I 0 0), (R 62), (I 57 0), (I 0 0), (R 69), (I 62 0), (I 0 0), (R 76), (I 72 0), (I 0 0), (R 81), (I 75 0), (I 0 0), (R 88), (I 80 0), (I 0 0), (R 108), (I 84 0), (I 0 0), (R 127), (I 88 0), (I 0 0), (R 146), (I 92 0), (I 0 0), (R 165), (I 96 0), (I 0 0), (R 184), (I 100 0), (I 0 0), (R 203), (I 104 0), (I 0 0), (R 222), (I 122 0), (I 0 0), (R 249), (I 129 0), (I 0 0), (R 270), (I 143 0), (I 0 0), (R 277), (I 148 0), (I 0 0), (R 284), (I 157 0), (I 0 0), (R 291), (I 159 0), (I 0 0), (R 298), (I 161 0), (I 0 0), (R 305), (I 170 0), (I 0 0), (R 312), (I 175 0), (I 0 0), (R 319), (I 180 0), (I 0 0), (R 326), (I 190 0), (I 0 0), (R 333), (I 195 0), (I 0 0), (R 340), (I 205 0), (I 0 0), (R 347), (I 209 0), (I 0 0), (R 354), (I 216 0), (I 0 0), (R 361), (I 225 0), (I 0 0), (R 368), (I 231 0), (I 0 0), (R 375), (I 237 0), (I 0 0), (R 382), (I 249 0), (I 0 0), (R 389), (I 253 0), (I 0 0), (R 396), (I 259 0), (I 0 0), (R 403), (I 274 0), (I 0 0), (R 410), (I 280 0), (I 0 0), (R 415), (I 288 0), (I 0 0), (R 422), (I 297 0), (I 0 0), (R 429), (I 306 0), (I 0 0), (R 436), (I 310 0), (I 0 0), (R 443), (I 350 0), (I 0 0), (R 516), (I 352 0), (I 0 0), (R 523), (I 354 0), (I 0 0), (R 530), (I 360 0), (I 0 0), (R 537), (I 364 0), (I 0 0), (R 544), (I 369 0), (I 0 0), (R 551), (I 376 0), (I 0 0), (R 558), (I 378 0), (I 0 0), (R 565), (I 380 0), (I 0 0), (R 572), (I 387 0), (I 0 0), (R 579), (I 392 0), (I 0 0), (R 586), (I 397 0), (I 0 0), (R 593), (I 404 0), (I 0 0), (R 600), (I 407 0), (I 0 0), (R 607), (I 412 0), (I 0 0), (R 614), (I 416 0), (I 0 0), (R 621), (I 422 0), (I 0 0), (R 628), (I 428 0), (I 0 0), (R 635), (I 433 0), (I 0 0), (R 642), (I 445 0), (I 0 0), (R 649), (I 450 0), (I 0 0), (R 656), (I 460 0), (I 0 0), (R 663), (I 470 0), (I 0 0), (R 670), (I 475 0), (I 0 0), (R 677), (I 480 0), (I 0 0), (R 684), (I 485 0), (I 0 0), (R 691), (I 499 0), (I 0 0), (R 698), (I 506 0), (I 0 0), (R 705), (I 508 0), (I 0 0), (R 712), (I 513 0), (I 0 0), (R 719), (I 518 0), (I 0 0), (R 726), (I 525 0), (I 0 0), (R 733), (I 532 0), (I 0 0), (R 740), (I 540 0), (I 0 0), (R 747), (I 546 0), (I 0 0), (R 754), (I 553 0), (I 0 0), (R 761), (I 559 0), (I 0 0), (R 768), (I 565 0), (I 0 0), (R 775), (I 573 0), (I 0 0), (R 782)]
def m12 (k : Nat) : Obj := fl (e12.take k)
abbrev e99 : List Value := [(R 119), (R 138), (R 157), (R 176), (R 195), (R 214), (R 233)]
def m99 (k : Nat) : Obj := (ty "Refusal" [(.type "Exception")] [(R 99), (.type "Exception"), (.type "BaseException"), (.type "object")] 98 (e99.take k) (some (R 83)) 355 363 "Exception.__new__")
def d15 : List Obj := df 1 189 ["first", "second", "work", "pair", "parts"] 15 M0
def d22 : List Obj := df 2 200 ["first", "second"] 22 M0
def o31 (P : Params) : Obj := (di [K P "__module__" 275 M1, K P "__qualname__" 277 (S "Tree" 276), K P "__firstlineno__" 279 (I 45 278), K P "__init__" 290 (R 42), K P "__static_attributes__" 295 (R 43)] 5)
def d36 : List Obj := dm (aG (top 33) 0) (.ofString "Tree.__init__") 280 ["self", "kind", "place", "data", "parts"] 36 M1
def o43 : Obj := (tu [(S "data" 291), (S "kind" 292), (S "parts" 293), (S "place" 294)])
def o44 (P : Params) : Obj := (di [K P "__module__" 275 M1, K P "__firstlineno__" 279 (I 45 278), K P "__init__" 290 (R 42), K P "__static_attributes__" 295 (R 43), K P "__dict__" 297 (R 46), K P "__weakref__" 299 (R 47), K P "__doc__" 300 N] 4)
def o45 : Obj := (ty "Tree" [(.type "object")] [(R 45), (.type "object")] 44 [] (none) 268 276 "object.__new__")
def d50 : List Obj := df 34 303 ["kind", "place", "data"] 50 M1
def d57 : List Obj := df 35 312 ["kind", "place", "parts"] 57 M1
def d64 : List Obj := df 37 323 ["file_tree", "names", "stmt"] 64 M2
def d71 : List Obj := df 38 332 ["stmt"] 71 M2
def o81 : Obj := (co (.ofString "codes_of") (.ofString "codes_of") 347 72 1 3 78 true 79 N N (R 80) 350)
def o82 : Obj := (fu (top 43) (.ofString "codes_of") M3 81)
def o83 : Obj := (tu [(.type "Exception")])
def o85 (P : Params) : Obj := (di [K P "__module__" 362 M4, K P "__qualname__" 364 (S "Refusal" 363), K P "__firstlineno__" 366 (I 75 365), K P "__init__" 375 (R 96), K P "__static_attributes__" 378 (R 97)] 5)
def d90 : List Obj := dm (aG (top 45) 0) (.ofString "Refusal.__init__") 367 ["self", "number", "position"] 90 M4
def o97 : Obj := (tu [(S "number" 376), (S "position" 377)])
def o98 (P : Params) : Obj := (di [K P "__module__" 362 M4, K P "__firstlineno__" 366 (I 75 365), K P "__init__" 375 (R 96), K P "__static_attributes__" 378 (R 97), K P "__weakref__" 380 (R 100), K P "__doc__" 381 N] 3)
def CN : Obj := (tu [(R 99)])
def CB (P : Params) : Obj := (di [K P "__module__" 393 M4, K P "__qualname__" 395 (S "LongFault" 394), K P "__firstlineno__" 397 (I 80 396), K P "__init__" 404 (R 116), K P "__static_attributes__" 405 (R 117)] 5)
def z8 : List Obj := dm (aG (top 46) 0) (.ofString "LongFault.__init__") 398 ["self"] 110 M4
def BS (P : Params) : Obj := (di [K P "__module__" 393 M4, K P "__firstlineno__" 397 (I 80 396), K P "__init__" 404 (R 116), K P "__static_attributes__" 405 (R 117), K P "__doc__" 406 N] 2)
def Ck : Obj := (ty "LongFault" [(R 99)] [(R 119), (R 99), (.type "Exception"), (.type "BaseException"), (.type "object")] 118 [] (some (R 103)) 386 394 "Exception.__new__")
def Cw : Obj := (tu [(R 99)])
def CS (P : Params) : Obj := (di [K P "__module__" 416 M4, K P "__qualname__" 418 (S "TokenFault" 417), K P "__firstlineno__" 420 (I 84 419), K P "__init__" 428 (R 135), K P "__static_attributes__" 429 (R 136)] 5)
def Ax : List Obj := dm (aG (top 47) 0) (.ofString "TokenFault.__init__") 421 ["self", "position"] 129 M4
def CD (P : Params) : Obj := (di [K P "__module__" 416 M4, K P "__firstlineno__" 420 (I 84 419), K P "__init__" 428 (R 135), K P "__static_attributes__" 429 (R 136), K P "__doc__" 430 N] 2)
def Br : Obj := (ty "TokenFault" [(R 99)] [(R 138), (R 99), (.type "Exception"), (.type "BaseException"), (.type "object")] 137 [] (some (R 122)) 409 417 "Exception.__new__")
def Bo : Obj := (tu [(R 99)])
def CH (P : Params) : Obj := (di [K P "__module__" 440 M4, K P "__qualname__" 442 (S "SyntaxFault" 441), K P "__firstlineno__" 444 (I 88 443), K P "__init__" 452 (R 154), K P "__static_attributes__" 453 (R 155)] 5)
def Bc : List Obj := dm (aG (top 48) 0) (.ofString "SyntaxFault.__init__") 445 ["self", "position"] 148 M4
def BO (P : Params) : Obj := (di [K P "__module__" 440 M4, K P "__firstlineno__" 444 (I 88 443), K P "__init__" 452 (R 154), K P "__static_attributes__" 453 (R 155), K P "__doc__" 454 N] 2)
def Cc : Obj := (ty "SyntaxFault" [(R 99)] [(R 157), (R 99), (.type "Exception"), (.type "BaseException"), (.type "object")] 156 [] (some (R 141)) 433 441 "Exception.__new__")
def CU : Obj := (tu [(R 99)])
def CM (P : Params) : Obj := (di [K P "__module__" 464 M4, K P "__qualname__" 466 (S "DeepFault" 465), K P "__firstlineno__" 468 (I 92 467), K P "__init__" 476 (R 173), K P "__static_attributes__" 477 (R 174)] 5)
def yP : List Obj := dm (aG (top 49) 0) (.ofString "DeepFault.__init__") 469 ["self", "position"] 167 M4
def Bp (P : Params) : Obj := (di [K P "__module__" 464 M4, K P "__firstlineno__" 468 (I 92 467), K P "__init__" 476 (R 173), K P "__static_attributes__" 477 (R 174), K P "__doc__" 478 N] 2)
def CJ : Obj := (ty "DeepFault" [(R 99)] [(R 176), (R 99), (.type "Exception"), (.type "BaseException"), (.type "object")] 175 [] (some (R 160)) 457 465 "Exception.__new__")
def C7 : Obj := (tu [(R 99)])
def BA (P : Params) : Obj := (di [K P "__module__" 488 M4, K P "__qualname__" 490 (S "PlaceFault" 489), K P "__firstlineno__" 492 (I 96 491), K P "__init__" 500 (R 192), K P "__static_attributes__" 501 (R 193)] 5)
def zG : List Obj := dm (aG (top 50) 0) (.ofString "PlaceFault.__init__") 493 ["self", "position"] 186 M4
def CC (P : Params) : Obj := (di [K P "__module__" 488 M4, K P "__firstlineno__" 492 (I 96 491), K P "__init__" 500 (R 192), K P "__static_attributes__" 501 (R 193), K P "__doc__" 502 N] 2)
def BM : Obj := (ty "PlaceFault" [(R 99)] [(R 195), (R 99), (.type "Exception"), (.type "BaseException"), (.type "object")] 194 [] (some (R 179)) 481 489 "Exception.__new__")
def BK : Obj := (tu [(R 99)])
def BL (P : Params) : Obj := (di [K P "__module__" 512 M4, K P "__qualname__" 514 (S "TwiceFault" 513), K P "__firstlineno__" 516 (I 100 515), K P "__init__" 524 (R 211), K P "__static_attributes__" 525 (R 212)] 5)
def Bb : List Obj := dm (aG (top 51) 0) (.ofString "TwiceFault.__init__") 517 ["self", "position"] 205 M4
def Bi (P : Params) : Obj := (di [K P "__module__" 512 M4, K P "__firstlineno__" 516 (I 100 515), K P "__init__" 524 (R 211), K P "__static_attributes__" 525 (R 212), K P "__doc__" 526 N] 2)
def Ce : Obj := (ty "TwiceFault" [(R 99)] [(R 214), (R 99), (.type "Exception"), (.type "BaseException"), (.type "object")] 213 [] (some (R 198)) 505 513 "Exception.__new__")
def Bm : Obj := (tu [(R 99)])
def BH (P : Params) : Obj := (di [K P "__module__" 536 M4, K P "__qualname__" 538 (S "BehindFault" 537), K P "__firstlineno__" 540 (I 104 539), K P "__init__" 548 (R 230), K P "__static_attributes__" 549 (R 231)] 5)
def za : List Obj := dm (aG (top 52) 0) (.ofString "BehindFault.__init__") 541 ["self", "position"] 224 M4
def CP (P : Params) : Obj := (di [K P "__module__" 536 M4, K P "__firstlineno__" 540 (I 104 539), K P "__init__" 548 (R 230), K P "__static_attributes__" 549 (R 231), K P "__doc__" 550 N] 2)
def Bz : Obj := (ty "BehindFault" [(R 99)] [(R 233), (R 99), (.type "Exception"), (.type "BaseException"), (.type "object")] 232 [] (some (R 217)) 529 537 "Exception.__new__")
def Bn : Obj := (tu [(I 32 571), (I 9 572), (I 10 573), (I 13 574)])
def BQ : Obj := (tu [(S "load" 576), (S "def" 577), (S "if" 578), (S "else" 579), (S "for" 580), (S "in" 581), (S "return" 582), (S "or" 583), (S "and" 584), (S "not" 585), (S "true" 586), (S "false" 587), (S "none" 588)])
def BB : Obj := (di [⟨34, (I 34 590), (I 34 591)⟩, ⟨92, (I 92 592), (I 92 593)⟩, ⟨110, (I 110 594), (I 10 595)⟩, ⟨116, (I 116 596), (I 9 597)⟩] 4)
def BE : Obj := (di [⟨-3471720369269462519, (R 240), (S "==" 605)⟩, ⟨1934246103329546215, (R 241), (S "!=" 608)⟩, ⟨5124875052475701045, (R 242), (S "<=" 611)⟩] 3)
def Cl : Obj := (tu [(I 61 603), (I 61 604)])
def BN : Obj := (tu [(I 33 606), (I 61 607)])
def CI : Obj := (tu [(I 60 609), (I 61 610)])
def Cj : Obj := (di [⟨61, (I 61 622), (S "=" 623)⟩, ⟨60, (I 60 625), (S "<" 626)⟩, ⟨43, (I 43 628), (S "+" 629)⟩, ⟨45, (I 45 631), (S "-" 632)⟩, ⟨42, (I 42 634), (S "*" 635)⟩, ⟨47, (I 47 637), (S "/" 638)⟩, ⟨37, (I 37 640), (S "percent" 641)⟩, ⟨40, (I 40 643), (S "(" 644)⟩, ⟨41, (I 41 646), (S ")" 647)⟩, ⟨91, (I 91 649), (S "[" 650)⟩, ⟨93, (I 93 652), (S "]" 653)⟩, ⟨123, (I 123 655), (S "{" 656)⟩, ⟨125, (I 125 658), (S "}" 659)⟩, ⟨44, (I 44 661), (S "," 662)⟩, ⟨59, (I 59 664), (S ";" 665)⟩, ⟨58, (I 58 667), (S ":" 668)⟩, ⟨46, (I 46 670), (S "." 671)⟩] 17)
def C3 (P : Params) : Obj := (di [K P "__module__" 681 M5, K P "__qualname__" 683 (S "Token" 682), K P "__firstlineno__" 685 (I 122 684), K P "__init__" 696 (R 257), K P "__static_attributes__" 701 (R 258)] 5)
def zT : List Obj := dm (aG (top 67) 0) (.ofString "Token.__init__") 686 ["self", "kind", "place", "after", "data"] 251 M5
def BG : Obj := (tu [(S "after" 697), (S "data" 698), (S "kind" 699), (S "place" 700)])
def Cq (P : Params) : Obj := (di [K P "__module__" 681 M5, K P "__firstlineno__" 685 (I 122 684), K P "__init__" 696 (R 257), K P "__static_attributes__" 701 (R 258), K P "__dict__" 703 (R 261), K P "__weakref__" 705 (R 262), K P "__doc__" 706 N] 4)
def BJ : Obj := (ty "Token" [(.type "object")] [(R 260), (.type "object")] 259 [] (none) 674 682 "object.__new__")
def zi : List Obj := df 68 709 ["text", "tokens", "at", "token"] 265 M5
def AW : List Obj := df 69 719 ["text", "place", "at"] 272 M5
def AM : List Obj := df 70 728 ["text", "place", "byte"] 279 M5
def AT : List Obj := df 71 737 ["byte"] 286 M5
def Bf : List Obj := df 72 744 ["byte"] 293 M5
def An : List Obj := df 73 751 ["text", "place", "after", "data", "kept"] 300 M5
def zD : List Obj := df 74 762 ["text", "place", "after"] 307 M5
def A1 : List Obj := df 75 771 ["data", "word"] 314 M5
def zN : List Obj := df 76 779 ["text", "place", "after", "data"] 321 M5
def zj : List Obj := df 77 789 ["digits", "worth", "digit"] 328 M5
def AK : List Obj := df 78 798 ["text", "place", "data", "at", "told"] 335 M5
def Am : List Obj := df 79 809 ["text", "at"] 342 M5
def Be : List Obj := df 80 817 ["text", "at", "byte"] 349 M5
def As : List Obj := df 81 826 ["text", "at", "byte", "high", "low"] 356 M5
def zu : List Obj := df 82 837 ["byte"] 363 M5
def yw : List Obj := df 83 844 ["text", "at"] 370 M5
def Au : List Obj := df 84 852 ["text", "place", "pair", "byte"] 377 M5
def yF : List Obj := df 89 870 ["file_tree", "found"] 384 M6
def B1 : List Obj := df 90 878 ["fault"] 391 M6
def yO : List Obj := df 91 885 ["file_tree", "found", "work", "entry", "tree", "in_block", "in_def", "part"] 398 M6
def zA : List Obj := df 92 899 ["tree", "in_block", "in_def"] 405 M6
def Cn : Obj := (co (.ofString "labels_of") (.ofString "labels_of") 908 280 1 3 412 true 413 N N (R 414) 911)
def CL : Obj := (fu (top 93) (.ofString "labels_of") M6 415)
def A9 : List Obj := df 94 914 ["labels", "found", "known", "label", "name"] 417 M6
def B7 : List Obj := df 95 925 ["tree", "found", "is_behind", "part"] 424 M6
def AZ : List Obj := df 96 935 ["part"] 431 M6
def CA (P : Params) : Obj := (di [K P "__module__" 953 M7, K P "__qualname__" 955 (S "Reader" 954), K P "__firstlineno__" 957 (I 310 956), K P "__init__" 965 (R 451), K P "seen" 972 (R 458), K P "sees" 980 (R 465), K P "sees_giving" 987 (R 472), K P "step" 995 (R 479), K P "take" 1003 (R 486), K P "enter" 1012 (R 493), K P "leave" 1020 (R 500), K P "__static_attributes__" 1024 (R 501)] 12)
def zx : List Obj := dm (aG (top 99) 0) (.ofString "Reader.__init__") 958 ["self", "tokens"] 445 M7
def AA : List Obj := dm (aG (top 99) 1) (.ofString "Reader.seen") 966 ["self"] 452 M7
def yY : List Obj := dm (aG (top 99) 2) (.ofString "Reader.sees") 973 ["self", "kind"] 459 M7
def zV : List Obj := dm (aG (top 99) 3) (.ofString "Reader.sees_giving") 981 ["self"] 466 M7
def B8 : List Obj := dm (aG (top 99) 4) (.ofString "Reader.step") 988 ["self", "token"] 473 M7
def zF : List Obj := dm (aG (top 99) 5) (.ofString "Reader.take") 996 ["self", "kind"] 480 M7
def yt : List Obj := dm (aG (top 99) 6) (.ofString "Reader.enter") 1004 ["self", "bracket", "token"] 487 M7
def AC : List Obj := dm (aG (top 99) 7) (.ofString "Reader.leave") 1013 ["self", "bracket"] 494 M7
def Co : Obj := (tu [(S "at" 1021), (S "depth" 1022), (S "tokens" 1023)])
def CV (P : Params) : Obj := (di [K P "__module__" 953 M7, K P "__firstlineno__" 957 (I 310 956), K P "__init__" 965 (R 451), K P "seen" 972 (R 458), K P "sees" 980 (R 465), K P "sees_giving" 987 (R 472), K P "step" 995 (R 479), K P "take" 1003 (R 486), K P "enter" 1012 (R 493), K P "leave" 1020 (R 500), K P "__static_attributes__" 1024 (R 501), K P "__dict__" 1026 (R 504), K P "__weakref__" 1028 (R 505), K P "__doc__" 1029 N] 4)
def Bl : Obj := (ty "Reader" [(.type "object")] [(R 503), (.type "object")] 502 [] (none) 946 954 "object.__new__")
def BV (P : Params) : Obj := (di [K P "number" 1034 (I 1 1035), K P "text" 1036 (I 2 1037), K P "name" 1038 (I 3 1039), K P "true" 1040 (I 4 1041), K P "false" 1042 (I 5 1043), K P "none" 1044 (I 6 1045)] 6)
def Ct (P : Params) : Obj := (di [K P "==" 1053 (I 33 1054), K P "!=" 1055 (I 34 1056), K P "<" 1057 (I 35 1058), K P "<=" 1059 (I 36 1060), K P "in" 1061 (I 37 1062)] 5)
def Cs (P : Params) : Obj := (di [K P "+" 1069 (I 60 1070), K P "-" 1071 (I 61 1072), K P "*" 1073 (I 62 1074), K P "/" 1075 (I 63 1076), K P "percent" 1077 (I 64 1078)] 5)
def yG : List Obj := df 104 1085 ["reader"] 511 M8
def AS : List Obj := df 105 1092 ["reader"] 518 M8
def yX : List Obj := df 106 1099 ["reader", "kind", "word", "read_part", "parts"] 525 M8
def zt : List Obj := df 107 1110 ["kind", "parts"] 532 M8
def zK : List Obj := df 108 1118 ["reader", "place"] 539 M8
def yL : List Obj := df 109 1126 ["reader", "left", "kind", "right"] 546 M8
def Ak : List Obj := df 110 1136 ["reader"] 553 M8
def AE : List Obj := df 111 1143 ["reader"] 560 M8
def yu : List Obj := df 112 1150 ["reader", "kind", "signs", "read_part", "parts", "sign", "part"] 567 M8
def zS : List Obj := df 113 1163 ["reader", "place"] 574 M8
def zB : List Obj := df 114 1171 ["reader", "parts"] 581 M8
def Ac : List Obj := df 115 1179 ["reader", "place"] 588 M8
def Ay : List Obj := df 116 1187 ["reader", "kind", "token"] 595 M8
def B0 : List Obj := df 117 1196 ["reader", "place", "parts"] 602 M8
def yB : List Obj := df 118 1205 ["reader", "closing", "read_part"] 609 M8
def AF : List Obj := df 119 1214 ["reader", "first", "read_part", "parts"] 616 M8
def Ag : List Obj := df 120 1224 ["reader", "label"] 623 M8
def A4 : List Obj := df 121 1232 ["reader", "place", "part"] 630 M8
def yK : List Obj := df 122 1241 ["reader", "token"] 637 M8
def zJ : List Obj := df 123 1249 ["reader", "tree"] 644 M8
def AO : List Obj := df 124 1257 ["reader", "place", "parts", "first"] 651 M8
def z7 : List Obj := df 125 1267 ["reader", "place", "first", "name", "parts"] 658 M8
def Af : List Obj := df 126 1278 ["reader", "place", "entries"] 665 M8
def zb : List Obj := df 127 1287 ["reader", "label"] 672 M8
def AB : List Obj := df 129 1297 ["reader", "stmts"] 679 M9
def zE : List Obj := df 130 1305 ["reader"] 686 M9
def AG : List Obj := df 131 1312 ["reader", "place", "token", "quoted", "names"] 693 M9
def zr : List Obj := df 132 1323 ["reader"] 700 M9
def AD : List Obj := df 133 1330 ["reader", "place", "name", "params"] 707 M9
def AN : List Obj := df 134 1340 ["reader", "place", "params"] 714 M9
def zM : List Obj := df 135 1349 ["reader", "name", "parts"] 721 M9
def yI : List Obj := df 136 1358 ["reader", "place", "stmts"] 728 M9
def A5 : List Obj := df 137 1367 ["reader", "place", "asked", "parts"] 735 M9
def A3 : List Obj := df 138 1377 ["reader", "place", "name", "walked"] 742 M9
def Ba : List Obj := df 139 1387 ["reader", "place", "parts"] 749 M9
def Aa : List Obj := df 140 1396 ["reader", "name", "worth"] 756 M9
def zY : List Obj := df 141 1405 ["reader", "part"] 763 M9
def yZ : List Obj := df 144 1417 ["text", "tree"] 770 M10
def Ai : List Obj := df 147 1429 ["a", "b", "first", "fault", "second"] 777 M11
def L (P : Params) (x2 x3 x12 x99 : Obj) : List Obj := [boot_o_0 P, boot_o_1 P, x2, x3, boot_o_4 P, boot_o_5 P, boot_o_6 P, boot_o_7 P, boot_o_8 P, boot_o_9 P, boot_o_10 P, tz, x12, (co (.ofString "<module>") (.ofString "<module>") 182 1 0 0 11 false 12 N N N 185), (fr 13 3 (S "__main__" 164))] ++ (d15 ++ (d22 ++ ([tz, pr, o31 P, tz, (fl [(I 47 0), (I 4 0), (R 41)]), (co (.ofString "Tree") (.ofString "Tree") 270 45 0 0 32 false 33 N N N 273), (fr 34 31 M1)] ++ (d36 ++ ([o43, o44 P, o45, (.mk (.type "getset_descriptor") none (.fields [(S "__dict__" 296), (R 45), (.builtin "function.__dict__"), (.builtin "function.__dict__#set")].toArray) #[]), (.mk (.type "getset_descriptor") none (.fields [(S "__weakref__" 298), (R 45), (.builtin "ExceptionGroup.__weakref__"), N].toArray) #[]), (su 45), (ic 45)] ++ (d50 ++ (d57 ++ (d64 ++ (d71 ++ ([tz, f0, (fz (top 43) (.ofString "codes_of")), o81, o82, o83, pr, o85 P, tz, (fl [(I 77 0), (I 4 0), (R 95)]), (co (.ofString "Refusal") (.ofString "Refusal") 357 75 0 0 86 false 87 N N N 360), (fr 88 85 M4)] ++ (d90 ++ ([o97, o98 P, x99, (.mk (.type "getset_descriptor") none (.fields [(S "__weakref__" 379), (R 99), (.builtin "ExceptionGroup.__weakref__"), N].toArray) #[]), (su 99), (ic 99), CN, pr, CB P, tz, (fl [(I 82 0), (I 4 0), (R 115)]), (co (.ofString "LongFault") (.ofString "LongFault") 388 80 0 0 106 false 107 N N N 391), (fr 108 105 M4)] ++ (z8 ++ ([tz, BS P, Ck, (su 119), (ic 119), Cw, pr, CS P, tz, (fl [(I 86 0), (I 4 0), (R 134)]), (co (.ofString "TokenFault") (.ofString "TokenFault") 411 84 0 0 125 false 126 N N N 414), (fr 127 124 M4)] ++ (Ax ++ ([tz, CD P, Br, (su 138), (ic 138), Bo, pr, CH P, tz, (fl [(I 90 0), (I 4 0), (R 153)]), (co (.ofString "SyntaxFault") (.ofString "SyntaxFault") 435 88 0 0 144 false 145 N N N 438), (fr 146 143 M4)] ++ (Bc ++ ([tz, BO P, Cc, (su 157), (ic 157), CU, pr, CM P, tz, (fl [(I 94 0), (I 4 0), (R 172)]), (co (.ofString "DeepFault") (.ofString "DeepFault") 459 92 0 0 163 false 164 N N N 462), (fr 165 162 M4)] ++ (yP ++ ([tz, Bp P, CJ, (su 176), (ic 176), C7, pr, BA P, tz, (fl [(I 98 0), (I 4 0), (R 191)]), (co (.ofString "PlaceFault") (.ofString "PlaceFault") 483 96 0 0 182 false 183 N N N 486), (fr 184 181 M4)] ++ (zG ++ ([tz, CC P, BM, (su 195), (ic 195), BK, pr, BL P, tz, (fl [(I 102 0), (I 4 0), (R 210)]), (co (.ofString "TwiceFault") (.ofString "TwiceFault") 507 100 0 0 201 false 202 N N N 510), (fr 203 200 M4)] ++ (Bb ++ ([tz, Bi P, Ce, (su 214), (ic 214), Bm, pr, BH P, tz, (fl [(I 106 0), (I 4 0), (R 229)]), (co (.ofString "BehindFault") (.ofString "BehindFault") 531 104 0 0 220 false 221 N N N 534), (fr 222 219 M4)] ++ (za ++ ([tz, CP P, Bz, (su 233), (ic 233), Bn, BQ, BB, BE, Cl, BN, CI, Cj, tz, pr, C3 P, tz, (fl [(I 124 0), (I 4 0), (R 256)]), (co (.ofString "Token") (.ofString "Token") 676 122 0 0 247 false 248 N N N 679), (fr 249 246 M5)] ++ (zT ++ ([BG, Cq P, BJ, (.mk (.type "getset_descriptor") none (.fields [(S "__dict__" 702), (R 260), (.builtin "function.__dict__"), (.builtin "function.__dict__#set")].toArray) #[]), (.mk (.type "getset_descriptor") none (.fields [(S "__weakref__" 704), (R 260), (.builtin "ExceptionGroup.__weakref__"), N].toArray) #[]), (su 260), (ic 260)] ++ (zi ++ (AW ++ (AM ++ (AT ++ (Bf ++ (An ++ (zD ++ (A1 ++ (zN ++ (zj ++ (AK ++ (Am ++ (Be ++ (As ++ (zu ++ (yw ++ (Au ++ (yF ++ (B1 ++ (yO ++ (zA ++ ([tz, f0, (fz (top 93) (.ofString "labels_of")), Cn, CL] ++ (A9 ++ (B7 ++ (AZ ++ ([tz, pr, CA P, tz, (fl [(I 312 0), (I 4 0), (R 450), (I 317 0), (I 4 0), (R 457), (I 320 0), (I 4 0), (R 464), (I 323 0), (I 4 0), (R 471), (I 326 0), (I 4 0), (R 478), (I 331 0), (I 4 0), (R 485), (I 336 0), (I 4 0), (R 492), (I 343 0), (I 4 0), (R 499)]), (co (.ofString "Reader") (.ofString "Reader") 948 310 0 0 441 false 442 N N N 951), (fr 443 440 M7)] ++ (zx ++ (AA ++ (yY ++ (zV ++ (B8 ++ (zF ++ (yt ++ (AC ++ ([Co, CV P, Bl, (.mk (.type "getset_descriptor") none (.fields [(S "__dict__" 1025), (R 503), (.builtin "function.__dict__"), (.builtin "function.__dict__#set")].toArray) #[]), (.mk (.type "getset_descriptor") none (.fields [(S "__weakref__" 1027), (R 503), (.builtin "ExceptionGroup.__weakref__"), N].toArray) #[]), (su 503), (ic 503), BV P, Ct P, Cs P] ++ (yG ++ (AS ++ (yX ++ (zt ++ (zK ++ (yL ++ (Ak ++ (AE ++ (yu ++ (zS ++ (zB ++ (Ac ++ (Ay ++ (B0 ++ (yB ++ (AF ++ (Ag ++ (A4 ++ (yK ++ (zJ ++ (AO ++ (z7 ++ (Af ++ (zb ++ (AB ++ (zE ++ (AG ++ (zr ++ (AD ++ (AN ++ (zM ++ (yI ++ (A5 ++ (A3 ++ (Ba ++ (Aa ++ (zY ++ (yZ ++ (Ai))))))))))))))))))))))))))))))))))))))))))))))))))))))))))))))))))))))))))))))))))))))))))))))))))))))
abbrev st (P : Params) (os : OsState) (n k : Nat) (x2 x3 x12 x99 : Obj) : SharedT := ⟨bt 12 ((L P x2 x3 x12 x99).take n), n, {}, #[], boot_drawn, k, os⟩
abbrev B : List Stmt := behindTheImports pw
abbrev env : Env := { scope := pw.main.scope, locals := mainNs, globals := mainNs, cells := [], code := (R 13), frame := some 14 }
abbrev cb : Code := .body B env
abbrev an : Option Value := some (R 6)
abbrev fp : Pos := ⟨0, 0, 0, 0⟩
abbrev PO := Params -> OsState -> SharedT
def Gp (w : World) (os : OsState) (n : Nat) (s : PO) (a k : Nat) (p : Pos) (s' : PO) (p' : Pos) : Prop := segRunT treeTable pw w 11 an 1 n (s w.params os) (piecesOf ((B.drop a).take k) env cb p [topFrame fp]) = some (.next, s' w.params os, cb, p')
def s0 : PO := fun P os => st P os 15 187 (m2 P 0 0) (m3 P (S "__main__" 164) 8 9) (m12 0) (m99 7)
def s1 : PO := fun P os => st P os 29 268 (m2 P 0 0) (m3 P M1 39 40) (m12 6) (m99 7)
def s2 : PO := fun P os => st P os 78 347 (m2 P 0 0) (m3 P M3 47 48) (m12 21) (m99 7)
def s3 : PO := fun P os => st P os 103 386 (m2 P 2 2) (m3 P M4 49 50) (m12 27) (m99 0)
def s4 : PO := fun P os => st P os 122 409 (m2 P 2 2) (m3 P M4 50 51) (m12 30) (m99 1)
def s5 : PO := fun P os => st P os 141 433 (m2 P 2 2) (m3 P M4 51 52) (m12 33) (m99 2)
def s6 : PO := fun P os => st P os 160 457 (m2 P 2 2) (m3 P M4 52 53) (m12 36) (m99 3)
def s7 : PO := fun P os => st P os 179 481 (m2 P 2 2) (m3 P M4 53 54) (m12 39) (m99 4)
def s8 : PO := fun P os => st P os 198 505 (m2 P 2 2) (m3 P M4 54 55) (m12 42) (m99 5)
def s9 : PO := fun P os => st P os 217 529 (m2 P 2 2) (m3 P M4 55 56) (m12 45) (m99 6)
def s10 : PO := fun P os => st P os 238 590 (m2 P 2 2) (m3 P M5 66 67) (m12 48) (m99 7)
def s11 : PO := fun P os => st P os 244 674 (m2 P 2 2) (m3 P M5 69 70) (m12 48) (m99 7)
def s12 : PO := fun P os => st P os 300 751 (m2 P 2 2) (m3 P M5 75 76) (m12 66) (m99 7)
def s13 : PO := fun P os => st P os 384 866 (m2 P 2 2) (m3 P M6 88 89) (m12 102) (m99 7)
def s14 : PO := fun P os => st P os 438 946 (m2 P 2 2) (m3 P M7 99 100) (m12 126) (m99 7)
def s15 : PO := fun P os => st P os 508 1032 (m2 P 2 2) (m3 P M7 100 101) (m12 129) (m99 7)
def s16 : PO := fun P os => st P os 539 1118 (m2 P 2 2) (m3 P M8 107 108) (m12 141) (m99 7)
def s17 : PO := fun P os => st P os 630 1232 (m2 P 2 2) (m3 P M8 120 121) (m12 180) (m99 7)
def s18 : PO := fun P os => st P os 714 1340 (m2 P 2 2) (m3 P M9 132 133) (m12 216) (m99 7)
def s19 : PO := fun P os => st P os 784 1440 (m2 P 2 2) (m3 P M11 144 145) (m12 246) (m99 7)
theorem g0 : ∀ (w : World) (os : OsState), Gp w os 343 s0 0 33 ⟨0, 0, 0, 0⟩ s1 ⟨44, 0, 44, 3⟩ := fun w os => by unfold Gp; rw [PySem.W.Fast.te10110043849684766642, PySem.W.Fast.te14364793385576792824]; kernel_rfl
theorem g1 : ∀ (w : World) (os : OsState), Gp w os 396 s1 33 10 ⟨44, 0, 44, 3⟩ s2 ⟨71, 0, 71, 8⟩ := fun w os => by unfold Gp; rw [PySem.W.Fast.te10110043849684766642, PySem.W.Fast.te14364793385576792824]; kernel_rfl
theorem g2 : ∀ (w : World) (os : OsState), Gp w os 266 s2 43 3 ⟨71, 0, 71, 8⟩ s3 ⟨75, 0, 79, 32⟩ := fun w os => by unfold Gp; rw [PySem.W.Fast.te10110043849684766642, PySem.W.Fast.te14364793385576792824]; kernel_rfl
theorem g3 : ∀ (w : World) (os : OsState), Gp w os 244 s3 46 1 ⟨75, 0, 79, 32⟩ s4 ⟨80, 0, 83, 36⟩ := fun w os => by unfold Gp; rw [PySem.W.Fast.te10110043849684766642, PySem.W.Fast.te14364793385576792824]; kernel_rfl
theorem g4 : ∀ (w : World) (os : OsState), Gp w os 245 s4 47 1 ⟨80, 0, 83, 36⟩ s5 ⟨84, 0, 87, 43⟩ := fun w os => by unfold Gp; rw [PySem.W.Fast.te10110043849684766642, PySem.W.Fast.te14364793385576792824]; kernel_rfl
theorem g5 : ∀ (w : World) (os : OsState), Gp w os 245 s5 48 1 ⟨84, 0, 87, 43⟩ s6 ⟨88, 0, 91, 43⟩ := fun w os => by unfold Gp; rw [PySem.W.Fast.te10110043849684766642, PySem.W.Fast.te14364793385576792824]; kernel_rfl
theorem g6 : ∀ (w : World) (os : OsState), Gp w os 245 s6 49 1 ⟨88, 0, 91, 43⟩ s7 ⟨92, 0, 95, 43⟩ := fun w os => by unfold Gp; rw [PySem.W.Fast.te10110043849684766642, PySem.W.Fast.te14364793385576792824]; kernel_rfl
theorem g7 : ∀ (w : World) (os : OsState), Gp w os 245 s7 50 1 ⟨92, 0, 95, 43⟩ s8 ⟨96, 0, 99, 43⟩ := fun w os => by unfold Gp; rw [PySem.W.Fast.te10110043849684766642, PySem.W.Fast.te14364793385576792824]; kernel_rfl
theorem g8 : ∀ (w : World) (os : OsState), Gp w os 245 s8 51 1 ⟨96, 0, 99, 43⟩ s9 ⟨100, 0, 103, 43⟩ := fun w os => by unfold Gp; rw [PySem.W.Fast.te10110043849684766642, PySem.W.Fast.te14364793385576792824]; kernel_rfl
theorem g9 : ∀ (w : World) (os : OsState), Gp w os 363 s9 52 12 ⟨100, 0, 103, 43⟩ s10 ⟨118, 0, 118, 10⟩ := fun w os => by unfold Gp; rw [PySem.W.Fast.te10110043849684766642, PySem.W.Fast.te14364793385576792824]; kernel_rfl
theorem g10 : ∀ (w : World) (os : OsState), Gp w os 401 s10 64 3 ⟨118, 0, 118, 10⟩ s11 ⟨121, 0, 121, 11⟩ := byRow2 "special-get-raises" (P := fun w : World => ∀ os : OsState, Gp w os 401 s10 64 3 ⟨118, 0, 118, 10⟩ s11 ⟨121, 0, 121, 11⟩) (fun w os => by unfold Gp; rw [PySem.W.Fast.te10110043849684766642, PySem.W.Fast.te14364793385576792824]; kernel_rfl) (fun w os => by unfold Gp; rw [PySem.W.Fast.te10110043849684766642, PySem.W.Fast.te14364793385576792824]; kernel_rfl)
theorem g11 : ∀ (w : World) (os : OsState), Gp w os 381 s11 67 6 ⟨121, 0, 121, 11⟩ s12 ⟨159, 0, 160, 27⟩ := fun w os => by unfold Gp; rw [PySem.W.Fast.te10110043849684766642, PySem.W.Fast.te14364793385576792824]; kernel_rfl
theorem g12 : ∀ (w : World) (os : OsState), Gp w os 394 s12 73 14 ⟨159, 0, 160, 27⟩ s13 ⟨246, 0, 246, 5⟩ := fun w os => by unfold Gp; rw [PySem.W.Fast.te10110043849684766642, PySem.W.Fast.te14364793385576792824]; kernel_rfl
theorem g13 : ∀ (w : World) (os : OsState), Gp w os 283 s13 87 12 ⟨246, 0, 246, 5⟩ s14 ⟨309, 0, 309, 13⟩ := fun w os => by unfold Gp; rw [PySem.W.Fast.te10110043849684766642, PySem.W.Fast.te14364793385576792824]; kernel_rfl
theorem g14 : ∀ (w : World) (os : OsState), Gp w os 448 s14 99 1 ⟨309, 0, 309, 13⟩ s15 ⟨310, 0, 345, 23⟩ := fun w os => by unfold Gp; rw [PySem.W.Fast.te10110043849684766642, PySem.W.Fast.te14364793385576792824]; kernel_rfl
theorem g15 : ∀ (w : World) (os : OsState), Gp w os 401 s15 100 8 ⟨310, 0, 345, 23⟩ s16 ⟨360, 0, 363, 44⟩ := byRow2 "special-get-raises" (P := fun w : World => ∀ os : OsState, Gp w os 401 s15 100 8 ⟨310, 0, 345, 23⟩ s16 ⟨360, 0, 363, 44⟩) (fun w os => by unfold Gp; rw [PySem.W.Fast.te10110043849684766642, PySem.W.Fast.te14364793385576792824]; kernel_rfl) (fun w os => by unfold Gp; rw [PySem.W.Fast.te10110043849684766642, PySem.W.Fast.te14364793385576792824]; kernel_rfl)
theorem g16 : ∀ (w : World) (os : OsState), Gp w os 401 s16 108 13 ⟨360, 0, 363, 44⟩ s17 ⟨422, 0, 427, 67⟩ := fun w os => by unfold Gp; rw [PySem.W.Fast.te10110043849684766642, PySem.W.Fast.te14364793385576792824]; kernel_rfl
theorem g17 : ∀ (w : World) (os : OsState), Gp w os 380 s17 121 13 ⟨422, 0, 427, 67⟩ s18 ⟨508, 0, 512, 63⟩ := fun w os => by unfold Gp; rw [PySem.W.Fast.te10110043849684766642, PySem.W.Fast.te14364793385576792824]; kernel_rfl
theorem g18 : ∀ (w : World) (os : OsState), Gp w os 349 s18 134 14 ⟨508, 0, 512, 63⟩ s19 ⟨573, 0, 584, 14⟩ := fun w os => by unfold Gp; rw [PySem.W.Fast.te10110043849684766642, PySem.W.Fast.te14364793385576792824]; kernel_rfl
section
variable {tb : String -> Option Builtin} {p : Program} {w : World} {n₀ : Nat} {ann : Option Value} {env : Env} {q : Pos}
theorem yV {n N m : Nat} {s s' r : Shared} {B : List Stmt} {a k : Nat} {c : Code} {pos p' : Pos} (h : segRun tb p w n₀ ann 1 n s (piecesOf ((B.drop a).take k) env c pos [topFrame q]) = some (.next, s', c, p'))
  (k2 : topRun tb p w n₀ ann N s' (restOf (B.drop (a + k)) env c p' [topFrame q]) = some r) (hm : m = n + N) : topRun tb p w n₀ ann m s (restOf (B.drop a) env c pos [topFrame q]) = some r := by
 subst hm
 have z := piece_app h k2
 rwa [<- List.drop_drop, List.take_append_drop] at z
theorem AU {n N m : Nat} {s s' r : Shared} {b : List Stmt} {c : Code} {pos p' : Pos} (h : segRun tb p w n₀ ann 1 n s (blockOf b env c pos [topFrame q]) = some (.next, s', c, p'))
  (k : topRun tb p w n₀ ann N s' (restOf (b.drop 0) env c p' [topFrame q]) = some r) (hm : m = n + N) : topRun tb p w n₀ ann m s ⟨denote tb (.body b env), c, pos, [topFrame q]⟩ = some r := by
 subst hm
 exact piece_block h k
theorem goE {n N m : Nat} {s s' r : Shared} {t t' : Thread} (h : topGo tb p w n₀ ann n s t = some (s', t')) (k : topRun tb p w n₀ ann N s' t' = some r) (hm : m = n + N) : topRun tb p w n₀ ann m s t = some r := by
 subst hm
 exact go_top h k
end
def Tp (w : World) (os : OsState) (f : Nat) (s : PO) (a : Nat) (p : Pos) : Prop := topRun treeTable pw w 11 an f (s w.params os).abs (restOf (B.drop a) env cb p [topFrame fp]) = some (s19 w.params os).abs
theorem cB {w : World} {os : OsState} {n f m a k : Nat} {s s' : PO} {p p' : Pos} (h : Gp w os n s a k p s' p') (t : Tp w os f s' (a + k) p') (hm : m = n + f) : Tp w os m s a p := yV (segRun_of h) t hm
theorem pre (w : World) (os : OsState) : topGo treeTable pw w 11 an 12 ⟨boot_heap w.params, #[], boot_drawn, boot_toks, os⟩ (topStub pw) = some ((s0 w.params os).abs, ⟨denote treeTable cb, cb, ⟨0, 0, 0, 0⟩, [topFrame fp]⟩) := by rw [PySem.W.Fast.te15667345088766844465, PySem.W.Fast.te11892475500146522536, PySem.W.Fast.te14364793385576792824]; kernel_rfl
theorem block (w : World) (os : OsState) : segRun treeTable pw w 11 an 1 1 (s0 w.params os).abs (blockOf B env cb ⟨0, 0, 0, 0⟩ [topFrame fp]) = some (.next, (s0 w.params os).abs, cb, ⟨0, 0, 0, 0⟩) := by rw [PySem.W.Fast.te14374325043358763698, PySem.W.Fast.te14364793385576792824]; kernel_rfl
theorem t19 (w : World) (os : OsState) : Tp w os 2 s19 148 ⟨573, 0, 584, 14⟩ := by unfold Tp; rw [PySem.W.Fast.te14082659384304107361, PySem.W.Fast.te14364793385576792824]; kernel_rfl
theorem t18 (w : World) (os : OsState) : Tp w os 351 s18 134 ⟨508, 0, 512, 63⟩ := cB (g18 w os) (t19 w os) (by decide)
theorem t17 (w : World) (os : OsState) : Tp w os 731 s17 121 ⟨422, 0, 427, 67⟩ := cB (g17 w os) (t18 w os) (by decide)
theorem t16 (w : World) (os : OsState) : Tp w os 1132 s16 108 ⟨360, 0, 363, 44⟩ := cB (g16 w os) (t17 w os) (by decide)
theorem t15 (w : World) (os : OsState) : Tp w os 1533 s15 100 ⟨310, 0, 345, 23⟩ := cB (g15 w os) (t16 w os) (by decide)
theorem t14 (w : World) (os : OsState) : Tp w os 1981 s14 99 ⟨309, 0, 309, 13⟩ := cB (g14 w os) (t15 w os) (by decide)
theorem t13 (w : World) (os : OsState) : Tp w os 2264 s13 87 ⟨246, 0, 246, 5⟩ := cB (g13 w os) (t14 w os) (by decide)
theorem t12 (w : World) (os : OsState) : Tp w os 2658 s12 73 ⟨159, 0, 160, 27⟩ := cB (g12 w os) (t13 w os) (by decide)
theorem t11 (w : World) (os : OsState) : Tp w os 3039 s11 67 ⟨121, 0, 121, 11⟩ := cB (g11 w os) (t12 w os) (by decide)
theorem t10 (w : World) (os : OsState) : Tp w os 3440 s10 64 ⟨118, 0, 118, 10⟩ := cB (g10 w os) (t11 w os) (by decide)
theorem t9 (w : World) (os : OsState) : Tp w os 3803 s9 52 ⟨100, 0, 103, 43⟩ := cB (g9 w os) (t10 w os) (by decide)
theorem t8 (w : World) (os : OsState) : Tp w os 4048 s8 51 ⟨96, 0, 99, 43⟩ := cB (g8 w os) (t9 w os) (by decide)
theorem t7 (w : World) (os : OsState) : Tp w os 4293 s7 50 ⟨92, 0, 95, 43⟩ := cB (g7 w os) (t8 w os) (by decide)
theorem t6 (w : World) (os : OsState) : Tp w os 4538 s6 49 ⟨88, 0, 91, 43⟩ := cB (g6 w os) (t7 w os) (by decide)
theorem t5 (w : World) (os : OsState) : Tp w os 4783 s5 48 ⟨84, 0, 87, 43⟩ := cB (g5 w os) (t6 w os) (by decide)
theorem t4 (w : World) (os : OsState) : Tp w os 5028 s4 47 ⟨80, 0, 83, 36⟩ := cB (g4 w os) (t5 w os) (by decide)
theorem t3 (w : World) (os : OsState) : Tp w os 5272 s3 46 ⟨75, 0, 79, 32⟩ := cB (g3 w os) (t4 w os) (by decide)
theorem t2 (w : World) (os : OsState) : Tp w os 5538 s2 43 ⟨71, 0, 71, 8⟩ := cB (g2 w os) (t3 w os) (by decide)
theorem t1 (w : World) (os : OsState) : Tp w os 5934 s1 33 ⟨44, 0, 44, 3⟩ := cB (g1 w os) (t2 w os) (by decide)
theorem t0 (w : World) (os : OsState) : Tp w os 6277 s0 0 ⟨0, 0, 0, 0⟩ := cB (g0 w os) (t1 w os) (by decide)
theorem tB (w : World) (os : OsState) : topRun treeTable pw w 11 an 6278 (s0 w.params os).abs ⟨denote treeTable cb, cb, ⟨0, 0, 0, 0⟩, [topFrame fp]⟩ = some (s19 w.params os).abs := AU (block w os) (t0 w os) (by decide)
theorem tA (w : World) (os : OsState) : topRun treeTable pw w 11 an 6290 ⟨boot_heap w.params, #[], boot_drawn, boot_toks, os⟩ (topStub pw) = some (s19 w.params os).abs := goE (pre w os) (tB w os) (by decide)
abbrev H1 (P : Params) : Heap := absHeap (s19 P {}).tree 784 {}
def q : Program := { pw with main := { pw.main with body := [top 147] } }
def loose : List Str := ["are_same", "are_alike", "QUOTED", "NAME", "LABEL", "FILE", "LOAD", "DEF", "PARAMS", "PARAM", "BLOCK", "IF", "FOR", "RETURN", "GIVING", "BARE", "OR", "AND", "NOT", "SUM", "PROD", "MINUS", "POST", "NAMED_ARG", "LIST", "LIST_FOR", "RECORD", "ENTRY", "CALL", "INDEX", "DOT", "Tree", "leaf", "node", "names_at_file_level", "names_given_by", "QUOTE", "BACKSLASH", "LETTER_X", "codes_of", "Refusal", "LongFault", "TokenFault", "SyntaxFault", "DeepFault", "PlaceFault", "TwiceFault", "BehindFault", "MOST_IN_WORD", "MOST_DIGITS", "MOST_WORTH", "MOST_TOLD", "LINE_FEED", "HASH", "ZERO", "NO_BYTE", "BLANKS", "KEPT_WORDS", "ESCAPES", "LONG_SIGNS", "SHORT_SIGNS", "Token", "cut", "remark_end", "token_at", "is_letter", "is_digit", "word_at", "word_end", "kept_word", "number_at", "worth_of", "quoted_at", "byte_at", "told_byte", "escaped_byte", "hex_worth", "told_width", "sign_at", "PLACE", "TWICE", "BEHIND", "check_placing", "refuse", "faults_in", "is_misplaced", "labels_of", "twice_faults", "behind_faults", "has_giving", "MOST_BRACKETS", "Reader", "ATOM_LEAVES", "COMPARISONS", "SIGN_NODES", "read_expr", "read_and", "read_joined", "node_of_several", "read_not", "read_comp", "read_sum", "read_prod", "read_signs", "read_signed", "read_post", "read_behind_atom", "read_name", "read_call", "read_row", "read_behind_first", "read_arg", "read_index", "read_atom", "read_parenthesized", "read_list", "read_list_for", "read_record", "read_entry", "read_file", "read_stmt", "read_load", "read_given_name", "read_def", "read_params", "read_param", "read_block", "read_if", "read_for", "read_return", "read_giving", "read_bare", "MOST_BYTES", "read_text", "LESS_FOR_SECOND"].map Str.ofString
def Kf (P : Params) : Frag := [(2, (m2 P 2 2)), (3, (m3 P M11 144 145)), (12, (m12 246)), (20, (at_ d15 5)), (21, (at_ d15 6)), (27, (at_ d22 5)), (28, (at_ d22 6)), (31, (o31 P)), (41, (at_ d36 5)), (42, (at_ d36 6)), (43, o43), (44, (o44 P)), (45, o45), (55, (at_ d50 5)), (56, (at_ d50 6)), (62, (at_ d57 5)), (63, (at_ d57 6)), (69, (at_ d64 5)), (70, (at_ d64 6)), (76, (at_ d71 5)), (77, (at_ d71 6)), (81, o81), (82, o82), (83, o83), (85, (o85 P)), (95, (at_ d90 5)), (96, (at_ d90 6)), (97, o97), (98, (o98 P)), (99, (m99 7)), (103, CN), (105, (CB P)), (115, (at_ z8 5)), (116, (at_ z8 6)), (118, (BS P)), (119, Ck), (122, Cw), (124, (CS P)), (134, (at_ Ax 5)), (135, (at_ Ax 6)), (137, (CD P)), (138, Br), (141, Bo), (143, (CH P)), (153, (at_ Bc 5)), (154, (at_ Bc 6)), (156, (BO P)), (157, Cc), (160, CU), (162, (CM P)), (172, (at_ yP 5)), (173, (at_ yP 6)), (175, (Bp P)), (176, CJ), (179, C7), (181, (BA P)), (191, (at_ zG 5)), (192, (at_ zG 6)), (194, (CC P)), (195, BM), (198, BK), (200, (BL P)), (210, (at_ Bb 5)), (211, (at_ Bb 6)), (213, (Bi P)), (214, Ce), (217, Bm), (219, (BH P)), (229, (at_ za 5)), (230, (at_ za 6)), (232, (CP P)), (233, Bz), (236, Bn), (237, BQ), (238, BB), (239, BE), (240, Cl), (241, BN), (242, CI), (243, Cj), (246, (C3 P)), (256, (at_ zT 5)), (257, (at_ zT 6)), (258, BG), (259, (Cq P)), (260, BJ), (270, (at_ zi 5)), (271, (at_ zi 6)), (277, (at_ AW 5)), (278, (at_ AW 6)), (284, (at_ AM 5)), (285, (at_ AM 6)), (291, (at_ AT 5)), (292, (at_ AT 6)), (298, (at_ Bf 5)), (299, (at_ Bf 6)), (305, (at_ An 5)), (306, (at_ An 6)), (312, (at_ zD 5)), (313, (at_ zD 6)), (319, (at_ A1 5)), (320, (at_ A1 6)), (326, (at_ zN 5)), (327, (at_ zN 6)), (333, (at_ zj 5)), (334, (at_ zj 6)), (340, (at_ AK 5)), (341, (at_ AK 6)), (347, (at_ Am 5)), (348, (at_ Am 6)), (354, (at_ Be 5)), (355, (at_ Be 6)), (361, (at_ As 5)), (362, (at_ As 6)), (368, (at_ zu 5)), (369, (at_ zu 6)), (375, (at_ yw 5)), (376, (at_ yw 6)), (382, (at_ Au 5)), (383, (at_ Au 6)), (389, (at_ yF 5)), (390, (at_ yF 6)), (396, (at_ B1 5)), (397, (at_ B1 6)), (403, (at_ yO 5)), (404, (at_ yO 6)), (410, (at_ zA 5)), (411, (at_ zA 6)), (415, Cn), (416, CL), (422, (at_ A9 5)), (423, (at_ A9 6)), (429, (at_ B7 5)), (430, (at_ B7 6)), (436, (at_ AZ 5)), (437, (at_ AZ 6)), (440, (CA P)), (450, (at_ zx 5)), (451, (at_ zx 6)), (457, (at_ AA 5)), (458, (at_ AA 6)), (464, (at_ yY 5)), (465, (at_ yY 6)), (471, (at_ zV 5)), (472, (at_ zV 6)), (478, (at_ B8 5)), (479, (at_ B8 6)), (485, (at_ zF 5)), (486, (at_ zF 6)), (492, (at_ yt 5)), (493, (at_ yt 6)), (499, (at_ AC 5)), (500, (at_ AC 6)), (501, Co), (502, (CV P)), (503, Bl), (508, (BV P)), (509, (Ct P)), (510, (Cs P)), (516, (at_ yG 5)), (517, (at_ yG 6)), (523, (at_ AS 5)), (524, (at_ AS 6)), (530, (at_ yX 5)), (531, (at_ yX 6)), (537, (at_ zt 5)), (538, (at_ zt 6)), (544, (at_ zK 5)), (545, (at_ zK 6)), (551, (at_ yL 5)), (552, (at_ yL 6)), (558, (at_ Ak 5)), (559, (at_ Ak 6)), (565, (at_ AE 5)), (566, (at_ AE 6)), (572, (at_ yu 5)), (573, (at_ yu 6)), (579, (at_ zS 5)), (580, (at_ zS 6)), (586, (at_ zB 5)), (587, (at_ zB 6)), (593, (at_ Ac 5)), (594, (at_ Ac 6)), (600, (at_ Ay 5)), (601, (at_ Ay 6)), (607, (at_ B0 5)), (608, (at_ B0 6)), (614, (at_ yB 5)), (615, (at_ yB 6)), (621, (at_ AF 5)), (622, (at_ AF 6)), (628, (at_ Ag 5)), (629, (at_ Ag 6)), (635, (at_ A4 5)), (636, (at_ A4 6)), (642, (at_ yK 5)), (643, (at_ yK 6)), (649, (at_ zJ 5)), (650, (at_ zJ 6)), (656, (at_ AO 5)), (657, (at_ AO 6)), (663, (at_ z7 5)), (664, (at_ z7 6)), (670, (at_ Af 5)), (671, (at_ Af 6)), (677, (at_ zb 5)), (678, (at_ zb 6)), (684, (at_ AB 5)), (685, (at_ AB 6)), (691, (at_ zE 5)), (692, (at_ zE 6)), (698, (at_ AG 5)), (699, (at_ AG 6)), (705, (at_ zr 5)), (706, (at_ zr 6)), (712, (at_ AD 5)), (713, (at_ AD 6)), (719, (at_ AN 5)), (720, (at_ AN 6)), (726, (at_ zM 5)), (727, (at_ zM 6)), (733, (at_ yI 5)), (734, (at_ yI 6)), (740, (at_ A5 5)), (741, (at_ A5 6)), (747, (at_ A3 5)), (748, (at_ A3 6)), (754, (at_ Ba 5)), (755, (at_ Ba 6)), (761, (at_ Aa 5)), (762, (at_ Aa 6)), (768, (at_ zY 5)), (769, (at_ zY 6)), (775, (at_ yZ 5)), (776, (at_ yZ 6)), (782, (at_ Ai 5)), (783, (at_ Ai 6))]
abbrev as : List Addr := [2, 3, 12, 20, 21, 27, 28, 31, 41, 42, 43, 44, 45, 55, 56, 62, 63, 69, 70, 76, 77, 81, 82, 83, 85, 95, 96, 97, 98, 99, 103, 105, 115, 116, 118, 119, 122, 124, 134, 135, 137, 138, 141, 143, 153, 154, 156, 157, 160, 162, 172, 173, 175, 176, 179, 181, 191, 192, 194, 195, 198, 200, 210, 211, 213, 214, 217, 219, 229, 230, 232, 233, 236, 237, 238, 239, 240, 241, 242, 243, 246, 256, 257, 258, 259, 260, 270, 271, 277, 278, 284, 285, 291, 292, 298, 299, 305, 306, 312, 313, 319, 320, 326, 327, 333, 334, 340, 341, 347, 348, 354, 355, 361, 362, 368, 369, 375, 376, 382, 383, 389, 390, 396, 397, 403, 404, 410, 411, 415, 416, 422, 423, 429, 430, 436, 437, 440, 450, 451, 457, 458, 464, 465, 471, 472, 478, 479, 485, 486, 492, 493, 499, 500, 501, 502, 503, 508, 509, 510, 516, 517, 523, 524, 530, 531, 537, 538, 544, 545, 551, 552, 558, 559, 565, 566, 572, 573, 579, 580, 586, 587, 593, 594, 600, 601, 607, 608, 614, 615, 621, 622, 628, 629, 635, 636, 642, 643, 649, 650, 656, 657, 663, 664, 670, 671, 677, 678, 684, 685, 691, 692, 698, 699, 705, 706, 712, 713, 719, 720, 726, 727, 733, 734, 740, 741, 747, 748, 754, 755, 761, 762, 768, 769, 775, 776, 782, 783]
abbrev H : Hook := kHook Kf as (fun _ => by kernel_rfl)
abbrev Xt (s : Shared) : Bool := xlAt q [] s && recOk [] s
abbrev Nn : Nat := 13538
abbrev sh (P : Params) (os : OsState) : Shared := ⟨H1 P, #[], boot_drawn, 1440, os⟩
theorem By (P : Params) (os : OsState) : (staticsOk (importedModules pw.main.body) (boot_heap P) (H1 P) && namesBound pw (H1 P) && gensDone (sh P os) && laidKept (boot_heap P) (H1 P)) = true := by kernel_rfl
theorem BF (P : Params) (os : OsState) : openSeen q loose (importedModules pw.main.body) Xt true (sh P os) = openGood q loose := by rw [PySem.W.Fast.te4187177175401517315]; kernel_rfl
theorem Cm (w : World) (os : OsState) : H.obs (sh w.params os) = H.val w := by kernel_rfl
theorem size : ∀ w : World, ((boot_heap w.params).isNs mainGlobals && (#[] : Array GenState).size == 0, (boot_heap w.params).objs.size, (boot_heap w.params).nsMap mainGlobals "__annotations__") = (true, 11, an) := fun w => by kernel_rfl
theorem op : opening pw = plainProg pw.main.scope.names := by kernel_rfl
theorem Ch (s : Shared) : fenceModules? pw s = some s := by kernel_rfl
theorem left : LeftO pw q loose Xt H.obs H.val Nn :=
 LeftO.of_pieces (H₀ := boot_heap) (H₁ := H1) (gs₀ := #[]) (gs₁ := #[]) (d₀ := boot_drawn) (d₁ := boot_drawn) (k₀ := boot_toks) (k₁ := 1440) (boot_open op (by decide) Ch) size tA (by decide) fun w => funext fun os => looks_pair (By w.params os) (looks_pair (BF w.params os) (Cm w os))
end Hd
end
open PySem PySem.W PyProof.Rows
set_option maxHeartbeats 0 in
theorem PySem.Challenge.cw_buildtext_s04_same_holds : PySem.Challenge.rw_buildtext_s04_same.Holds := by
 refine holds_os (q := Hd.q) (loose := Hd.loose) (Xt := Hd.Xt) (XP := XL Hd.q []) (Yf := Hd.H.obs) (Ya := Hd.H.val) (YP := Hd.H.says) (N := Hd.Nn) Hd.left (Hook.of Hd.H) (Hook.keeps Hd.H) (fun s e => xl_of s (Bool.and_eq_true_iff.mp e).1) XL.keeps (by rfl) (by rfl) (by rfl) (fun s e => recFacts_of (Bool.and_eq_true_iff.mp e).2) os_shapes (by decide +kernel) (by decide +kernel) ⟨rfl, rfl, rfl, rfl, rfl, by decide +kernel⟩ ⟨[.list [], .list []], by decide +kernel, by decide +kernel⟩ ?hc
 refine L2.rR (r := PySem.Challenge.rw_buildtext_s04_same) (k := 229) (CX := fun w => L2.CXR PySem.Challenge.rw_buildtext_s04_same.prog w) (ps := ["a", "b"]) (sp := L2.kO) (by decide +kernel) rfl rfl ⟨rfl, by decide, by decide⟩ (fun w h Y => PySem.W.kIn_of Y) ?F ?S L2.Dj
 case F =>
  intro w mg fa h Y KX G hmg
  have tLong : L2.vU PySem.Challenge.rw_buildtext_s04_same.prog w (Hd.Kf w.params) 239 L2.cQ := by
   refine L2.wA [([Sum.inl 61, Sum.inl 61], 240, .str "==" 605), ([Sum.inl 33, Sum.inl 61], 241, .str "!=" 608), ([Sum.inl 60, Sum.inl 61], 242, .str "<=" 611)] rfl (by kernel_rfl) (fun x hx => ?_) (by decide) (.cons ⟨rfl, _, rfl⟩ (.cons ⟨rfl, _, rfl⟩ (.cons ⟨rfl, _, rfl⟩ .nil))) rfl
   simp only [List.mem_cons, List.mem_nil_iff, or_false] at hx
   rcases hx with rfl | rfl | rfl
   ·exact ⟨_, _, _, rfl, rfl, rfl, .cons ⟨_, rfl⟩ (.cons ⟨_, rfl⟩ .nil)⟩
   ·exact ⟨_, _, _, rfl, rfl, rfl, .cons ⟨_, rfl⟩ (.cons ⟨_, rfl⟩ .nil)⟩
   ·exact ⟨_, _, _, rfl, rfl, rfl, .cons ⟨_, rfl⟩ (.cons ⟨_, rfl⟩ .nil)⟩
  have T : L2.Txt PySem.Challenge.rw_buildtext_s04_same.prog w (Hd.Kf w.params) mg { tok := 260, rdr := 503, tree := 45, R := 99, t_BLANKS := 236, t_KEPT_WORDS := 237, t_ESCAPES := 238, t_LONG_SIGNS := 239, t_SHORT_SIGNS := 243, t_ATOM_LEAVES := 508, t_COMPARISONS := 509, t_SIGN_NODES := 510 } :=
   ⟨⟨rfl, rfl, rfl, rfl⟩, rfl, rfl, rfl, rfl, ⟨rfl, rfl, rfl, rfl⟩, rfl, rfl, rfl, ⟨rfl, rfl, rfl, rfl⟩, rfl, rfl, rfl, rfl, L2.aH KX G rfl, L2.aH KX G rfl, L2.aH KX G rfl, L2.aH KX G rfl, L2.aH KX G rfl, L2.aH KX G rfl, L2.aH KX G rfl, L2.aH KX G rfl, L2.aH KX G rfl, L2.aH KX G rfl, L2.aH KX G rfl, L2.aH KX G rfl, L2.aH KX G rfl, L2.aH KX G rfl, L2.aH KX G rfl, L2.aH KX G rfl, L2.aH KX G rfl, L2.aH KX G rfl, L2.aH KX G rfl, L2.aH KX G rfl, L2.aH KX G rfl, L2.aH KX G rfl, L2.aH KX G rfl, L2.aH KX G rfl, L2.aH KX G rfl, L2.aH KX G rfl, L2.aH KX G rfl, L2.aH KX G rfl, L2.aH KX G rfl, L2.aH KX G rfl, L2.aH KX G rfl, L2.aH KX G rfl, L2.aH KX G rfl, L2.aH KX G rfl, L2.aH KX G rfl, L2.aH KX G rfl, L2.aH KX G rfl, L2.aH KX G rfl, L2.aH KX G rfl, L2.aH KX G rfl, L2.gB KX G rfl, ⟨_, _, _, rfl, rfl, rfl, (by rw [PySem.sizeLine_eq]; decide), .cons ⟨_, rfl⟩ (.cons ⟨_, rfl⟩ (.cons ⟨_, rfl⟩ (.cons ⟨_, rfl⟩ (.nil))))⟩, L2.gB KX G rfl, ⟨_, _, _, rfl, rfl, rfl, (by rw [PySem.sizeLine_eq]; decide), .cons ⟨_, rfl⟩ (.cons ⟨_, rfl⟩ (.cons ⟨_, rfl⟩ (.cons ⟨_, rfl⟩ (.cons ⟨_, rfl⟩ (.cons ⟨_, rfl⟩ (.cons ⟨_, rfl⟩ (.cons ⟨_, rfl⟩ (.cons ⟨_, rfl⟩ (.cons ⟨_, rfl⟩ (.cons ⟨_, rfl⟩ (.cons ⟨_, rfl⟩ (.cons ⟨_, rfl⟩ (.nil)))))))))))))⟩, L2.gB KX G rfl, L2.jS rfl ⟨⟨rfl, rfl, _, rfl⟩, ⟨⟨rfl, rfl, _, rfl⟩, ⟨⟨rfl, rfl, _, rfl⟩, ⟨⟨rfl, rfl, _, rfl⟩, trivial⟩⟩⟩⟩ (by decide) rfl, L2.gB KX G rfl, tLong, L2.gB KX G rfl, L2.jS rfl ⟨⟨rfl, rfl, _, rfl⟩, ⟨⟨rfl, rfl, _, rfl⟩, ⟨⟨rfl, rfl, _, rfl⟩, ⟨⟨rfl, rfl, _, rfl⟩, ⟨⟨rfl, rfl, _, rfl⟩, ⟨⟨rfl, rfl, _, rfl⟩, ⟨⟨rfl, rfl, _, rfl⟩, ⟨⟨rfl, rfl, _, rfl⟩, ⟨⟨rfl, rfl, _, rfl⟩, ⟨⟨rfl, rfl, _, rfl⟩, ⟨⟨rfl, rfl, _, rfl⟩, ⟨⟨rfl, rfl, _, rfl⟩, ⟨⟨rfl, rfl, _, rfl⟩, ⟨⟨rfl, rfl, _, rfl⟩, ⟨⟨rfl, rfl, _, rfl⟩, ⟨⟨rfl, rfl, _, rfl⟩, ⟨⟨rfl, rfl, _, rfl⟩, trivial⟩⟩⟩⟩⟩⟩⟩⟩⟩⟩⟩⟩⟩⟩⟩⟩⟩ (by decide) rfl, L2.aH KX G rfl, L2.aH KX G rfl, L2.aH KX G rfl, L2.aH KX G rfl, L2.gB KX G rfl, L2.jS rfl ⟨⟨rfl, rfl, _, rfl⟩, ⟨⟨rfl, rfl, _, rfl⟩, ⟨⟨rfl, rfl, _, rfl⟩, ⟨⟨rfl, rfl, _, rfl⟩, ⟨⟨rfl, rfl, _, rfl⟩, ⟨⟨rfl, rfl, _, rfl⟩, trivial⟩⟩⟩⟩⟩⟩ (by decide) rfl, L2.gB KX G rfl, L2.jS rfl ⟨⟨rfl, rfl, _, rfl⟩, ⟨⟨rfl, rfl, _, rfl⟩, ⟨⟨rfl, rfl, _, rfl⟩, ⟨⟨rfl, rfl, _, rfl⟩, ⟨⟨rfl, rfl, _, rfl⟩, trivial⟩⟩⟩⟩⟩ (by decide) rfl, L2.gB KX G rfl, L2.jS rfl ⟨⟨rfl, rfl, _, rfl⟩, ⟨⟨rfl, rfl, _, rfl⟩, ⟨⟨rfl, rfl, _, rfl⟩, ⟨⟨rfl, rfl, _, rfl⟩, ⟨⟨rfl, rfl, _, rfl⟩, trivial⟩⟩⟩⟩⟩ (by decide) rfl, L2.aH KX G rfl, L2.aH KX G rfl, L2.vp KX G rfl, L2.vp KX G rfl, L2.vp KX G rfl, L2.vp KX G rfl, L2.vp KX G rfl, by decide, by decide, by decide, PySem.W.mg_of KX G rfl, rfl⟩
  have D : L2.Az PySem.Challenge.rw_buildtext_s04_same.prog w (Hd.Kf w.params) mg { tok := 260, rdr := 503, tree := 45, R := 99, t_BLANKS := 236, t_KEPT_WORDS := 237, t_ESCAPES := 238, t_LONG_SIGNS := 239, t_SHORT_SIGNS := 243, t_ATOM_LEAVES := 508, t_COMPARISONS := 509, t_SIGN_NODES := 510 } :=
   ⟨T, L2.aQ KX G rfl rfl rfl rfl, L2.aQ KX G rfl rfl rfl rfl, L2.aQ KX G rfl rfl rfl rfl, L2.aQ KX G rfl rfl rfl rfl, L2.aQ KX G rfl rfl rfl rfl, L2.aQ KX G rfl rfl rfl rfl, L2.aQ KX G rfl rfl rfl rfl, L2.aQ KX G rfl rfl rfl rfl, L2.aQ KX G rfl rfl rfl rfl, L2.aQ KX G rfl rfl rfl rfl, L2.aQ KX G rfl rfl rfl rfl, L2.aQ KX G rfl rfl rfl rfl, L2.aQ KX G rfl rfl rfl rfl, L2.aQ KX G rfl rfl rfl rfl, L2.aQ KX G rfl rfl rfl rfl, L2.aQ KX G rfl rfl rfl rfl, L2.aQ KX G rfl rfl rfl rfl, L2.aQ KX G rfl rfl rfl rfl, L2.aQ KX G rfl rfl rfl rfl, L2.aQ KX G rfl rfl rfl rfl, L2.aQ KX G rfl rfl rfl rfl, L2.aQ KX G rfl rfl rfl rfl, L2.aQ KX G rfl rfl rfl rfl, L2.aQ KX G rfl rfl rfl rfl, L2.aQ KX G rfl rfl rfl rfl, L2.aQ KX G rfl rfl rfl rfl, L2.aQ KX G rfl rfl rfl rfl, L2.aQ KX G rfl rfl rfl rfl, L2.aQ KX G rfl rfl rfl rfl, L2.aQ KX G rfl rfl rfl rfl, L2.aQ KX G rfl rfl rfl rfl, L2.aQ KX G rfl rfl rfl rfl, L2.aQ KX G rfl rfl rfl rfl, L2.aQ KX G rfl rfl rfl rfl, L2.aQ KX G rfl rfl rfl rfl, L2.aQ KX G rfl rfl rfl rfl, L2.aQ KX G rfl rfl rfl rfl, L2.aQ KX G rfl rfl rfl rfl, L2.aQ KX G rfl rfl rfl rfl, L2.aQ KX G rfl rfl rfl rfl, L2.aQ KX G rfl rfl rfl rfl, L2.aQ KX G rfl rfl rfl rfl, L2.aQ KX G rfl rfl rfl rfl, L2.aQ KX G rfl rfl rfl rfl, L2.aQ KX G rfl rfl rfl rfl, L2.aQ KX G rfl rfl rfl rfl, L2.aQ KX G rfl rfl rfl rfl, L2.aQ KX G rfl rfl rfl rfl, L2.aQ KX G rfl rfl rfl rfl, L2.aQ KX G rfl rfl rfl rfl, L2.aQ KX G rfl rfl rfl rfl, L2.aQ KX G rfl rfl rfl rfl, L2.aQ KX G rfl rfl rfl rfl, L2.aQ KX G rfl rfl rfl rfl, L2.aQ KX G rfl rfl rfl rfl, L2.aQ KX G rfl rfl rfl rfl, L2.aQ KX G rfl rfl rfl rfl, L2.aQ KX G rfl rfl rfl rfl, L2.aQ KX G rfl rfl rfl rfl, L2.aQ KX G rfl rfl rfl rfl, L2.aQ KX G rfl rfl rfl rfl, L2.aQ KX G rfl rfl rfl rfl, L2.aQ KX G rfl rfl rfl rfl, L2.aQ KX G rfl rfl rfl rfl, L2.aQ KX G rfl rfl rfl rfl, L2.aQ KX G rfl rfl rfl rfl, L2.aQ KX G rfl rfl rfl rfl, L2.aQ KX G rfl rfl rfl rfl, L2.aQ KX G rfl rfl rfl rfl, L2.aQ KX G rfl rfl rfl rfl, L2.aQ KX G rfl rfl rfl rfl, L2.sB rfl rfl rfl rfl rfl, L2.sB rfl rfl rfl rfl rfl, L2.sB rfl rfl rfl rfl rfl, L2.sB rfl rfl rfl rfl rfl, L2.sB rfl rfl rfl rfl rfl, L2.sB rfl rfl rfl rfl rfl, L2.sB rfl rfl rfl rfl rfl, L2.we KX G rfl rfl rfl rfl rfl rfl rfl rfl, L2.we KX G rfl rfl rfl rfl rfl rfl rfl rfl, L2.we KX G rfl rfl rfl rfl rfl rfl rfl rfl, L2.iZ KX G rfl rfl rfl rfl rfl rfl rfl rfl rfl rfl rfl rfl rfl rfl, L2.iZ KX G rfl rfl rfl rfl rfl rfl rfl rfl rfl rfl rfl rfl rfl rfl, L2.iZ KX G rfl rfl rfl rfl rfl rfl rfl rfl rfl rfl rfl rfl rfl rfl, L2.iZ KX G rfl rfl rfl rfl rfl rfl rfl rfl rfl rfl rfl rfl rfl rfl, L2.iZ KX G rfl rfl rfl rfl rfl rfl rfl rfl rfl rfl rfl rfl rfl rfl, L2.iZ KX G rfl rfl rfl rfl rfl rfl rfl rfl rfl rfl rfl rfl rfl rfl, L2.iZ KX G rfl rfl rfl rfl rfl rfl rfl rfl rfl rfl rfl rfl rfl rfl, ⟨_, _, ⟨rfl, rfl, rfl, rfl⟩, L2.me rfl rfl rfl⟩⟩
  exact L2.Bd D hmg
 case S =>
  intro K H xs a hO hwi hask hx
  cases hx with
  | cons h1 h2 =>
    cases h2 with
    | cons h2 h3 =>
      cases h3
      cases h1 with
      | lst hs ha =>
        cases h2 with
        | lst hs2 ha2 =>
          have e := L2.pj a.1 _ ha
          subst e
          have e2 := L2.pj a.2.1 _ ha2
          subst e2
          have q : ((Codec.inLen 0 10000 a.1 && a.1.all (Codec.inInt 0 255)) && ((Codec.inLen 0 10000 a.2.1 && a.2.1.all (Codec.inInt 0 255)) && true)) = true := hwi
          rw [Bool.and_eq_true, Bool.and_eq_true, Bool.and_eq_true, Bool.and_eq_true] at q
          have bd : ∀ l : List Int, l.all (Codec.inInt 0 255) = true -> ∀ n ∈ l, 0 <= n /\ n <= 255 := fun l hl n hn => by
           have z := List.all_eq_true.mp hl n hn
           unfold Codec.inInt at z
           rw [Bool.and_eq_true, decide_eq_true_eq, decide_eq_true_eq] at z
           exact z
          have hb := bd a.1 q.1.2
          have hb2 := bd a.2.1 q.2.1.2
          refine ⟨a.1.map Int.toNat, a.2.1.map Int.toNat, ⟨_, rfl, ?_⟩, ⟨_, rfl, ?_⟩, fun q H' hq => ?_⟩
          ·rw [L2.qR fun n hn => (hb n hn).1]; exact hs
          ·rw [L2.qR fun n hn => (hb2 n hn).1]; exact hs2
          ·have hq2 : H' q = some (.lst ((PyVablda.same a.1 a.2.1).map L2.V.int)) := by rw [L2.wE hb hb2]; exact hq
           exact .lst (L2.SqL.of hq2) (L2.sO _)