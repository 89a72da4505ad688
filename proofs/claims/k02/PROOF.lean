import PyProof.Rows.All
import Wide.All
import OpenK.AllK
import Wide.FinOn
import HandS.ForMost
import HandS.ForExc
import HandS.Property
import HandS.OwnEq
import HandS.Star
import HandS.DictComp
import HandS.Deep
import HandS.Conv
import HandS.Style
import HandS.Wide
import HandS.IsInst
import HandS.Walk
import HandS.TupLen
import HandS.ListItems
import KE.KOpsOwn
import HandS.DictTup
import HandS.Defaults
import HandS.TupAny
import HandS.More
import HandS.Codes
import KE.KDictCopyH
import KE.GoesEnum
import HandS.Zip
import HandS.Ends
import PySem.Challenge.RW_forbidmoves_k02_whole_distances
set_option Elab.async false
set_option linter.all false
set_option maxRecDepth 100000
set_option maxHeartbeats 4000000
/-! Sh: values as trees over the hand layer; an expression, a statement as a function of trees and a small store. -/
namespace Sh
open PySem PySem.Spec PyProof.Rows L2

/-- a value as a tree; a cell: the i-th thing of the store, which may change -/
inductive T where
  | non | bl (b : Bool) | int (i : Int) | str (x : Str)
  | tup (xs : List T) | lst (xs : List T) | scr (xs : List T) | tupK (xs : List T)
  | dK (ks : List Key) (xs : List T) | dT (ks : List (List Key)) (xs : List T)
  | ins (c : Nat) (xs : List T)
  | cell (i : Nat)
  deriving Inhabited
/-- what a cell holds -/
inductive MO where
  | lst (xs : List T) | dK (ks : List Key) (xs : List T) | dT (ks : List (List Key)) (xs : List T) | ins (c : Nat) (ns : List Str) (xs : List T)
  deriving Inhabited
mutual
/-- no cell in it -/
def pur : T → Bool
  | .non => true | .bl _ => true | .int _ => true | .str _ => true
  | .tup xs => purs xs | .lst xs => purs xs | .scr xs => purs xs | .tupK xs => purs xs
  | .dK _ xs => purs xs | .dT _ xs => purs xs | .ins _ xs => purs xs
  | .cell _ => false
def purs : List T → Bool
  | [] => true
  | x :: xs => pur x && purs xs
end
def MO.pur : MO → Bool
  | .lst xs => purs xs | .dK _ xs => purs xs | .dT _ xs => purs xs | .ins _ _ xs => purs xs
/-- the store: each cell with its lock -/
abbrev Sto := List (Bool × MO)
/-- an outcome: a value, an exception (its class, its attributes' values), or nothing that is known -/
inductive Z (α : Type) where
  | ok (a : α) (s : Sto) | exc (c : Nat) (x : List T) (s : Sto) | bad
abbrev Lo := List (Option T)
abbrev Fx := Lo → Sto → Z T
def Z.then {α β : Type} (z : Z α) (k : α → Sto → Z β) : Z β := match z with
  | .ok a s => k a s
  | .exc c x s => .exc c x s
  | .bad => .bad

structure RE where
  K : PySem.W.Frag
  ca : Nat → Addr
  fn : Nat → List Str
  xn : Nat → List Str
  /-- things that are being made: no tree leads to them -/
  ex : List Addr
abbrev RE.x (E : RE) (l : List Addr) : RE := { E with ex := l }
abbrev Ma := List (Addr × Option Obj)
def Ma.ad (m : Ma) : List Addr := m.map (·.1)
/-- neither a cell nor being made -/
def Fr (E : RE) (m : Ma) (a : Addr) : Prop := a ∉ m.ad ∧ a ∉ E.ex
def KT (K : PySem.W.Frag) (a : Addr) (xs : List V) : Prop := ∃ (o : Obj) (its : Array Value) (n : Nat), K.lookup a = some o ∧ o.cls = .type "tuple" ∧ o.data = .seq its n ∧ its.size ≤ sizeLine ∧ Vals xs its.toList
def KL (K : PySem.W.Frag) (a : Addr) (xs : List V) : Prop := ∃ (o : Obj) (its : Array Value) (n : Nat), K.lookup a = some o ∧ o.cls = .type "list" ∧ o.dict = none ∧ o.data = .seq its n ∧ its.size ≤ sizeLine ∧ Vals xs its.toList
mutual
/-- the value v stands for the tree -/
def R (E : RE) (m : Ma) (H : Hp) : T → V → Prop
  | .non, v => v = .non
  | .bl b, v => v = .bl b
  | .int i, v => v = .int i
  | .str x, v => v = .str x
  | .tup xs, v => ∃ a vs, v = .ref a ∧ Fr E m a ∧ H a = some (.tup vs) ∧ Rs E m H xs vs
  | .tupK xs, v => ∃ a vs, v = .ref a ∧ KT E.K a vs ∧ Rs E m H xs vs
  | .lst xs, v => ∃ a vs, v = .ref a ∧ Fr E m a ∧ H a = some (.lst vs) ∧ Rs E m H xs vs
  | .scr xs, v => ∃ a vs, v = .ref a ∧ ((Fr E m a ∧ Rd H a (.lst vs)) ∨ KL E.K a vs) ∧ Rs E m H xs vs
  | .dK ks xs, v => ∃ a vs, v = .ref a ∧ Fr E m a ∧ Rd H a (.dK (ks.zip vs)) ∧ ks.length = vs.length ∧ Rs E m H xs vs
  | .dT ks xs, v => ∃ a vs, v = .ref a ∧ Fr E m a ∧ Rd H a (.dT (ks.zip vs)) ∧ ks.length = vs.length ∧ Rs E m H xs vs
  | .ins c xs, v => ∃ a dx vs, v = .ref a ∧ Fr E m a ∧ H a = some (.ins (E.ca c) dx ((E.fn c).zip vs)) ∧ (E.fn c).length = vs.length ∧ Rs E m H xs vs
  | .cell i, v => ∃ a, m.ad[i]? = some a ∧ v = .ref a
def Rs (E : RE) (m : Ma) (H : Hp) : List T → List V → Prop
  | [], vs => vs = []
  | x :: xs, vs => ∃ v r, vs = v :: r ∧ R E m H x v ∧ Rs E m H xs r
end
def Ext (m m' : Ma) (H : Hp) : Prop := ∃ new : Ma, m' = m ++ new ∧ ∀ p ∈ new, H p.1 = none ∧ p.1 ∉ m.ad
/-- the cells that are not locked -/
def Ma.fre (m : Ma) : List Addr := (m.filter fun p => p.2.isNone).map (·.1)
theorem nf {m : Ma} {a : Addr} (h : a ∉ m.ad) : a ∉ m.fre := fun z => by
  obtain ⟨p, hp, e⟩ := List.mem_map.mp z
  exact h (List.mem_map.mpr ⟨p, (List.mem_filter.mp hp).1, e⟩)
theorem fre_of {m : Ma} {i : Nat} {a : Addr} (h : m[i]? = some (a, none)) : a ∈ m.fre := List.mem_map.mpr ⟨(a, none), List.mem_filter.mpr ⟨List.mem_of_getElem? h, rfl⟩, rfl⟩
theorem fre_app {m n : Ma} : Ma.fre (m ++ n) = m.fre ++ Ma.fre n := by unfold Ma.fre; rw [List.filter_append, List.map_append]
/-- only cells that are not locked change -/
def Keep (m : Ma) (H H' : Hp) : Prop := ∀ a o, a ∉ m.fre → H a = some o → H' a = some o
theorem Ext.refl {m : Ma} {H : Hp} : Ext m m H := ⟨[], by simp, by simp⟩
theorem Keep.refl {m : Ma} {H : Hp} : Keep m H H := fun _ _ _ h => h
theorem Ext.ad {m m' : Ma} {H : Hp} (e : Ext m m' H) {a : Addr} (h : a ∉ m.ad) (q : H a ≠ none) : a ∉ m'.ad := by
  obtain ⟨new, rfl, hn⟩ := e
  intro z
  unfold Ma.ad at z h
  rw [List.map_append, List.mem_append] at z
  rcases z with z | z
  · exact h z
  · obtain ⟨p, hp, rfl⟩ := List.mem_map.mp z
    exact q (hn p hp).1
theorem Ext.sub {m m' : Ma} {H : Hp} (e : Ext m m' H) {a : Addr} (h : a ∉ m'.ad) : a ∉ m.ad := by
  obtain ⟨new, rfl, hn⟩ := e
  intro z
  apply h
  unfold Ma.ad at z ⊢
  rw [List.map_append, List.mem_append]
  exact .inl z
theorem Ext.get {m m' : Ma} {H : Hp} (e : Ext m m' H) {i : Nat} {p : Addr × Option Obj} (h : m[i]? = some p) : m'[i]? = some p := by
  obtain ⟨new, rfl, _⟩ := e
  rw [List.getElem?_append_left (List.getElem?_eq_some_iff.mp h).1]
  exact h
theorem ad_get {m : Ma} {i : Nat} {a : Addr} : m.ad[i]? = some a ↔ ∃ k, m[i]? = some (a, k) := by
  unfold Ma.ad
  rw [List.getElem?_map]
  cases h : m[i]? with
  | none => simp
  | some p =>
    obtain ⟨x, k⟩ := p
    simp
theorem Keep.free {m : Ma} {H H' : Hp} (k : Keep m H H') {a : Addr} (ha : a ∉ m.ad) (h : H' a = none) : H a = none := by
  cases q : H a with
  | none => rfl
  | some o => rw [k a o (nf ha) q] at h; cases h
theorem Keep.rd {m : Ma} {H H' : Hp} (k : Keep m H H') {a : Addr} {u : HO} (ha : a ∉ m.ad) (h : Rd H a u) : Rd H' a u := by
  rcases h with h | ⟨o, h⟩
  · exact .inl (k a _ (nf ha) h)
  · exact .inr ⟨o, k a _ (nf ha) h⟩
theorem rd_some {H : Hp} {a : Addr} {u : HO} (h : Rd H a u) : H a ≠ none := by
  rcases h with h | ⟨o, h⟩ <;> rw [h] <;> exact fun z => nomatch z
theorem Ext.fr {E : RE} {m m' : Ma} {H : Hp} (e : Ext m m' H) {a : Addr} (h : Fr E m a) (q : H a ≠ none) : Fr E m' a := ⟨e.ad h.1 q, h.2⟩
/-- what may be called a thing in the making later on -/
def Exs (E : RE) (H : Hp) (l : List Addr) : Prop := ∀ d ∈ l, d ∈ E.ex ∨ H d = none
theorem Exs.same {E : RE} {H : Hp} : Exs E H E.ex := fun _ h => .inl h
theorem Ext.frX {E : RE} {m m' : Ma} {H : Hp} {l : List Addr} (hx : Exs E H l) (e : Ext m m' H) {a : Addr} (h : Fr E m a) (q : H a ≠ none) : Fr (E.x l) m' a :=
  ⟨e.ad h.1 q, fun z => (hx a z).elim h.2 q⟩
mutual
theorem R.monoX {E : RE} {m m' : Ma} {H H' : Hp} {l : List Addr} (hx : Exs E H l) (e : Ext m m' H) (k : Keep m H H') : ∀ {t : T} {v : V}, R E m H t v → R (E.x l) m' H' t v
  | .non, _, h => h
  | .bl _, _, h => h
  | .int _, _, h => h
  | .str _, _, h => h
  | .tup xs, v, h => by
    obtain ⟨a, vs, ev, na, hs, hr⟩ := h
    exact ⟨a, vs, ev, Ext.frX hx e na (by rw [hs]; exact fun z => nomatch z), k a _ (nf na.1) hs, Rs.monoX hx e k hr⟩
  | .tupK xs, v, h => by
    obtain ⟨a, vs, ev, hs, hr⟩ := h
    exact ⟨a, vs, ev, hs, Rs.monoX hx e k hr⟩
  | .lst xs, v, h => by
    obtain ⟨a, vs, ev, na, hs, hr⟩ := h
    exact ⟨a, vs, ev, Ext.frX hx e na (by rw [hs]; exact fun z => nomatch z), k a _ (nf na.1) hs, Rs.monoX hx e k hr⟩
  | .scr xs, v, h => by
    obtain ⟨a, vs, ev, hs, hr⟩ := h
    refine ⟨a, vs, ev, ?_, Rs.monoX hx e k hr⟩
    rcases hs with ⟨na, hs⟩ | hs
    · exact .inl ⟨Ext.frX hx e na (rd_some hs), k.rd na.1 hs⟩
    · exact .inr hs
  | .dK ks xs, v, h => by
    obtain ⟨a, vs, ev, na, hs, hl, hr⟩ := h
    exact ⟨a, vs, ev, Ext.frX hx e na (rd_some hs), k.rd na.1 hs, hl, Rs.monoX hx e k hr⟩
  | .dT ks xs, v, h => by
    obtain ⟨a, vs, ev, na, hs, hl, hr⟩ := h
    exact ⟨a, vs, ev, Ext.frX hx e na (rd_some hs), k.rd na.1 hs, hl, Rs.monoX hx e k hr⟩
  | .ins c xs, v, h => by
    obtain ⟨a, dx, vs, ev, na, hs, hl, hr⟩ := h
    exact ⟨a, dx, vs, ev, Ext.frX hx e na (by rw [hs]; exact fun z => nomatch z), k a _ (nf na.1) hs, hl, Rs.monoX hx e k hr⟩
  | .cell i, v, h => by
    obtain ⟨a, h1, ev⟩ := h
    obtain ⟨kk, h2⟩ := ad_get.mp h1
    exact ⟨a, ad_get.mpr ⟨kk, e.get h2⟩, ev⟩
theorem Rs.monoX {E : RE} {m m' : Ma} {H H' : Hp} {l : List Addr} (hx : Exs E H l) (e : Ext m m' H) (k : Keep m H H') : ∀ {ts : List T} {vs : List V}, Rs E m H ts vs → Rs (E.x l) m' H' ts vs
  | [], _, h => h
  | x :: xs, vs, h => by
    obtain ⟨v, r, ev, h1, h2⟩ := h
    exact ⟨v, r, ev, R.monoX hx e k h1, Rs.monoX hx e k h2⟩
end
theorem R.mono {E : RE} {m m' : Ma} {H H' : Hp} (e : Ext m m' H) (k : Keep m H H') {t : T} {v : V} (h : R E m H t v) : R E m' H' t v := R.monoX (l := E.ex) .same e k h
theorem Rs.mono {E : RE} {m m' : Ma} {H H' : Hp} (e : Ext m m' H) (k : Keep m H H') {t : List T} {v : List V} (h : Rs E m H t v) : Rs E m' H' t v := Rs.monoX (l := E.ex) .same e k h
mutual
/-- fewer things in the making -/
theorem R.less {E : RE} {m : Ma} {H : Hp} {l : List Addr} (hl : ∀ d ∈ E.ex, d ∈ l) : ∀ {t : T} {v : V}, R (E.x l) m H t v → R E m H t v
  | .non, _, h => h
  | .bl _, _, h => h
  | .int _, _, h => h
  | .str _, _, h => h
  | .tup xs, v, ⟨a, vs, ev, na, hs, hr⟩ => ⟨a, vs, ev, ⟨na.1, fun z => na.2 (hl _ z)⟩, hs, Rs.less hl hr⟩
  | .tupK xs, v, ⟨a, vs, ev, hs, hr⟩ => ⟨a, vs, ev, hs, Rs.less hl hr⟩
  | .lst xs, v, ⟨a, vs, ev, na, hs, hr⟩ => ⟨a, vs, ev, ⟨na.1, fun z => na.2 (hl _ z)⟩, hs, Rs.less hl hr⟩
  | .scr xs, v, ⟨a, vs, ev, hs, hr⟩ => ⟨a, vs, ev, hs.elim (fun z => .inl ⟨⟨z.1.1, fun y => z.1.2 (hl _ y)⟩, z.2⟩) .inr, Rs.less hl hr⟩
  | .dK ks xs, v, ⟨a, vs, ev, na, hs, hk, hr⟩ => ⟨a, vs, ev, ⟨na.1, fun z => na.2 (hl _ z)⟩, hs, hk, Rs.less hl hr⟩
  | .dT ks xs, v, ⟨a, vs, ev, na, hs, hk, hr⟩ => ⟨a, vs, ev, ⟨na.1, fun z => na.2 (hl _ z)⟩, hs, hk, Rs.less hl hr⟩
  | .ins c xs, v, ⟨a, dx, vs, ev, na, hs, hk, hr⟩ => ⟨a, dx, vs, ev, ⟨na.1, fun z => na.2 (hl _ z)⟩, hs, hk, Rs.less hl hr⟩
  | .cell i, v, h => h
theorem Rs.less {E : RE} {m : Ma} {H : Hp} {l : List Addr} (hl : ∀ d ∈ E.ex, d ∈ l) : ∀ {ts : List T} {vs : List V}, Rs (E.x l) m H ts vs → Rs E m H ts vs
  | [], _, h => h
  | x :: xs, vs, ⟨v, r, ev, h1, h2⟩ => ⟨v, r, ev, R.less hl h1, Rs.less hl h2⟩
end
mutual
/-- what is being made changes -/
theorem R.wr {E : RE} {m : Ma} {H : Hp} {d : Addr} {o : HO} (hd : d ∈ E.ex) : ∀ {t : T} {v : V}, R E m H t v → R E m (upd H d o) t v
  | .non, _, h => h
  | .bl _, _, h => h
  | .int _, _, h => h
  | .str _, _, h => h
  | .tup xs, v, ⟨a, vs, ev, na, hs, hr⟩ => ⟨a, vs, ev, na, by rw [upd_ne (fun z => na.2 (by rw [z]; exact hd))]; exact hs, Rs.wr hd hr⟩
  | .tupK xs, v, ⟨a, vs, ev, hs, hr⟩ => ⟨a, vs, ev, hs, Rs.wr hd hr⟩
  | .lst xs, v, ⟨a, vs, ev, na, hs, hr⟩ => ⟨a, vs, ev, na, by rw [upd_ne (fun z => na.2 (by rw [z]; exact hd))]; exact hs, Rs.wr hd hr⟩
  | .scr xs, v, ⟨a, vs, ev, hs, hr⟩ => ⟨a, vs, ev, hs.elim (fun z => .inl ⟨z.1, by unfold Rd; rw [upd_ne (fun y => z.1.2 (by rw [y]; exact hd))]; exact z.2⟩) .inr, Rs.wr hd hr⟩
  | .dK ks xs, v, ⟨a, vs, ev, na, hs, hk, hr⟩ => ⟨a, vs, ev, na, by unfold Rd; rw [upd_ne (fun z => na.2 (by rw [z]; exact hd))]; exact hs, hk, Rs.wr hd hr⟩
  | .dT ks xs, v, ⟨a, vs, ev, na, hs, hk, hr⟩ => ⟨a, vs, ev, na, by unfold Rd; rw [upd_ne (fun z => na.2 (by rw [z]; exact hd))]; exact hs, hk, Rs.wr hd hr⟩
  | .ins c xs, v, ⟨a, dx, vs, ev, na, hs, hk, hr⟩ => ⟨a, dx, vs, ev, na, by rw [upd_ne (fun z => na.2 (by rw [z]; exact hd))]; exact hs, hk, Rs.wr hd hr⟩
  | .cell i, v, h => h
theorem Rs.wr {E : RE} {m : Ma} {H : Hp} {d : Addr} {o : HO} (hd : d ∈ E.ex) : ∀ {ts : List T} {vs : List V}, Rs E m H ts vs → Rs E m (upd H d o) ts vs
  | [], _, h => h
  | x :: xs, vs, ⟨v, r, ev, h1, h2⟩ => ⟨v, r, ev, R.wr hd h1, Rs.wr hd h2⟩
end
theorem Ext.trans {m m1 m2 : Ma} {H H1 : Hp} (e : Ext m m1 H) (k : Keep m H H1) (e2 : Ext m1 m2 H1) : Ext m m2 H := by
  obtain ⟨n1, rfl, h1⟩ := id e
  obtain ⟨n2, rfl, h2⟩ := e2
  refine ⟨n1 ++ n2, by rw [List.append_assoc], fun p hp => ?_⟩
  rcases List.mem_append.mp hp with hp | hp
  · exact h1 p hp
  · have hm := e.sub (h2 p hp).2
    exact ⟨k.free hm (h2 p hp).1, hm⟩
theorem Keep.trans {m m1 : Ma} {H H1 H2 : Hp} (e : Ext m m1 H) (k : Keep m H H1) (k2 : Keep m1 H1 H2) : Keep m H H2 := fun a o ha h =>
  k2 a o (fun z => by
    obtain ⟨new, rfl, hn⟩ := e
    rw [fre_app, List.mem_append] at z
    rcases z with z | z
    · exact ha z
    · obtain ⟨p, hp, rfl⟩ := List.mem_map.mp z
      rw [(hn p (List.mem_filter.mp hp).1).1] at h
      cases h) (k a o ha h)

/-- the content of a cell -/
def CO (E : RE) (m : Ma) (H : Hp) : MO → HO → Prop
  | .lst xs, u => ∃ vs, u = .lst vs ∧ Rs E m H xs vs
  | .dK ks xs, u => ∃ vs, u = .dK (ks.zip vs) ∧ ks.length = vs.length ∧ Rs E m H xs vs
  | .dT ks xs, u => ∃ vs, u = .dT (ks.zip vs) ∧ ks.length = vs.length ∧ Rs E m H xs vs
  | .ins c ns xs, u => ∃ dx vs, u = .ins (E.ca c) dx (ns.zip vs) ∧ ns.length = vs.length ∧ Rs E m H xs vs
/-- how a cell stands: free, or locked by the object od -/
def Lk (H : Hp) (a : Addr) (u : HO) : Bool → Option Obj → Prop
  | false, none => H a = some u
  | true, some od => H a = some (.frz od u)
  | _, _ => False
theorem Lk.there {H : Hp} {a : Addr} {u : HO} {b : Bool} {k : Option Obj} (h : Lk H a u b k) : H a ≠ none := by
  cases b <;> cases k <;> first | exact h.elim | (intro z; have q : H a = _ := h; rw [z] at q; cases q)
theorem Lk.rd {H : Hp} {a : Addr} {u : HO} {b : Bool} {k : Option Obj} (h : Lk H a u b k) : Rd H a u := by
  cases b <;> cases k <;> first | exact h.elim | exact .inl h | exact .inr ⟨_, h⟩
/-- a list or a dict: what may be in the making -/
def mkg : HO → Bool
  | .lst _ => true | .dK _ => true | .dT _ => true
  | _ => false
structure JS (E : RE) (m : Ma) (st : Sto) (H : Hp) : Prop where
  len : m.length = st.length
  nod : m.ad.Nodup
  pu : ∀ (i : Nat) (b : Bool) (o : MO), st[i]? = some (b, o) → o.pur = true
  dis : ∀ a ∈ m.ad, a ∉ E.ex
  exs : ∀ a ∈ E.ex, ∃ o, H a = some o ∧ mkg o = true
  at_ : ∀ (i : Nat) (b : Bool) (o : MO), st[i]? = some (b, o) → ∃ a k u, m[i]? = some (a, k) ∧ CO E m H o u ∧ Lk H a u b k
structure J (E : RE) (m : Ma) (ρ : Lo) (st : Sto) (σ : L2.St) (H : Hp) : Prop where
  len : ρ.length = σ.length
  loc : ∀ (i : Nat) (t : T), ρ[i]? = some (some t) → ∃ v, σ[i]? = some (some v) ∧ R E m H t v
  sto : JS E m st H
theorem J.step {E : RE} {m m' : Ma} {ρ : Lo} {st st' : Sto} {σ : L2.St} {H H' : Hp} (j : J E m ρ st σ H) (e : Ext m m' H) (k : Keep m H H') (s : JS E m' st' H') : J E m' ρ st' σ H' :=
  ⟨j.len, fun i t h => let ⟨v, h1, h2⟩ := j.loc i t h; ⟨v, h1, h2.mono e k⟩, s⟩
theorem JS.there {E : RE} {m : Ma} {st : Sto} {H : Hp} (s : JS E m st H) {a : Addr} (h : a ∈ m.ad) : H a ≠ none := by
  obtain ⟨i, hi⟩ := List.getElem?_of_mem h
  obtain ⟨k, hk⟩ := ad_get.mp hi
  have hl : i < st.length := by rw [← s.len]; exact (List.getElem?_eq_some_iff.mp hk).1
  obtain ⟨a', k', u, h1, _, h3⟩ := s.at_ i st[i].1 st[i].2 (by rw [List.getElem?_eq_getElem hl])
  rw [hk] at h1
  cases h1
  exact Lk.there h3
theorem JS.exn {E : RE} {m : Ma} {st : Sto} {H : Hp} (s : JS E m st H) {a : Addr} (h : a ∈ E.ex) : H a ≠ none := fun z => by
  obtain ⟨o, h1, _⟩ := s.exs a h
  rw [z] at h1
  cases h1
theorem JS.fresh {E : RE} {m : Ma} {st : Sto} {H : Hp} (s : JS E m st H) {a : Addr} (h : H a = none) : Fr E m a := ⟨fun z => s.there z h, fun z => s.exn z h⟩
theorem CO.mono {E : RE} {m m' : Ma} {H H' : Hp} (e : Ext m m' H) (k : Keep m H H') {o : MO} {u : HO} (h : CO E m H o u) : CO E m' H' o u := by
  cases o with
  | lst xs => obtain ⟨vs, h1, h2⟩ := h; exact ⟨vs, h1, h2.mono e k⟩
  | dK ks xs => obtain ⟨vs, h1, h0, h2⟩ := h; exact ⟨vs, h1, h0, h2.mono e k⟩
  | dT ks xs => obtain ⟨vs, h1, h0, h2⟩ := h; exact ⟨vs, h1, h0, h2.mono e k⟩
  | ins c ns xs => obtain ⟨dx, vs, h1, h0, h2⟩ := h; exact ⟨dx, vs, h1, h0, h2.mono e k⟩
/-- a new thing that nobody may change -/
theorem keep_new {m : Ma} {H : Hp} {p : Addr} {o : HO} (h : H p = none) : Keep m H (upd H p o) := fun a u _ e => by rw [upd_ne (ne_of_none e h)]; exact e
theorem Lk.keep {H H' : Hp} {a : Addr} {u : HO} {b : Bool} {k : Option Obj} (h : Lk H a u b k) (q : ∀ o, H a = some o → H' a = some o) : Lk H' a u b k := by
  cases b <;> cases k <;> first | exact h.elim | exact q _ h
theorem JS.new {E : RE} {m : Ma} {st : Sto} {H : Hp} (s : JS E m st H) {p : Addr} {o : HO} (h : H p = none) : JS E m st (upd H p o) :=
  ⟨s.len, s.nod, s.pu, s.dis, fun a ha => by rw [upd_ne (fun z => s.exn ha (by rw [z]; exact h))]; exact s.exs a ha, fun i b u hi => by
    obtain ⟨a, k, x, h1, h2, h3⟩ := s.at_ i b u hi
    exact ⟨a, k, x, h1, h2.mono .refl (keep_new h), Lk.keep h3 fun o' e => by rw [upd_ne (ne_of_none e h)]; exact e⟩⟩
/-- a new cell -/
theorem JS.cell {E : RE} {m : Ma} {st : Sto} {H : Hp} (s : JS E m st H) {p : Addr} {o : MO} {u : HO} (h : H p = none) (hc : CO E m H o u) (hpu : o.pur = true) : JS E (m ++ [(p, none)]) (st ++ [(false, o)]) (upd H p u) := by
  have nm := s.fresh h
  have e : Ext m (m ++ [(p, none)]) H := ⟨_, rfl, fun q hq => by
    have : q = (p, none) := by simpa using hq
    subst this
    exact ⟨h, nm.1⟩⟩
  refine ⟨by simp [s.len], ?_, fun i b x hi => ?_, fun a ha => ?_, fun a ha => by rw [upd_ne (fun z => s.exn ha (by rw [z]; exact h))]; exact s.exs a ha, fun i b x hi => ?_⟩
  · have nm := nm.1
    unfold Ma.ad at nm ⊢
    rw [List.map_append, List.nodup_append]
    refine ⟨s.nod, by simp, fun a ha b hb => ?_⟩
    have : b = p := by simpa using hb
    subst this
    rintro rfl
    exact nm ha
  · by_cases hl : i < st.length
    · rw [List.getElem?_append_left hl] at hi
      exact s.pu i b x hi
    · have hl2 : i = st.length := by
        have := (List.getElem?_eq_some_iff.mp hi).1
        rw [List.length_append, List.length_singleton] at this
        omega
      subst hl2
      rw [List.getElem?_append_right (Nat.le_refl _)] at hi
      simp at hi
      obtain ⟨rfl, rfl⟩ := hi
      exact hpu
  · unfold Ma.ad at ha
    rw [List.map_append, List.mem_append] at ha
    rcases ha with ha | ha
    · exact s.dis a ha
    · have : a = p := by simpa using ha
      subst this
      exact nm.2
  · by_cases hl : i < st.length
    · rw [List.getElem?_append_left hl] at hi
      obtain ⟨a, k, y, h1, h2, h3⟩ := s.at_ i b x hi
      exact ⟨a, k, y, e.get h1, h2.mono e (keep_new h), Lk.keep h3 fun o' q => by rw [upd_ne (ne_of_none q h)]; exact q⟩
    · have hl2 : i = st.length := by
        have := (List.getElem?_eq_some_iff.mp hi).1
        rw [List.length_append, List.length_singleton] at this
        omega
      subst hl2
      rw [List.getElem?_append_right (Nat.le_refl _)] at hi
      simp at hi
      obtain ⟨rfl, rfl⟩ := hi
      refine ⟨p, none, u, ?_, hc.mono e (keep_new h), upd_same⟩
      rw [List.getElem?_append_right (by rw [s.len]; exact Nat.le_refl _), s.len]
      simp
theorem ext_cell {E : RE} {m : Ma} {st : Sto} {H : Hp} (s : JS E m st H) {p : Addr} (h : H p = none) : Ext m (m ++ [(p, none)]) H :=
  ⟨_, rfl, fun q hq => by
    have : q = (p, none) := by simpa using hq
    subst this
    exact ⟨h, (s.fresh h).1⟩⟩
theorem ad_ix {l : List Addr} (h : l.Nodup) {i j : Nat} {a : Addr} (x : l[i]? = some a) (y : l[j]? = some a) : i = j := by
  obtain ⟨h1, e1⟩ := List.getElem?_eq_some_iff.mp x
  obtain ⟨h2, e2⟩ := List.getElem?_eq_some_iff.mp y
  exact (List.getElem_inj h).mp (e1.trans e2.symm)
/-- a free cell is written: its content's own values stand -/
theorem JS.write {E : RE} {m : Ma} {st : Sto} {H : Hp} (s : JS E m st H) {i : Nat} {a : Addr} {o : MO} {u : HO} (hm : m[i]? = some (a, none)) (hc : CO E m H o u) (hpu : o.pur = true) : JS E m (st.set i (false, o)) (upd H a u) ∧ Keep m H (upd H a u) := by
  have ha : a ∈ m.ad := List.mem_of_getElem? (ad_get.mpr ⟨none, hm⟩)
  have k : Keep m H (upd H a u) := fun b x nb e => by rw [upd_ne (fun z => nb (by rw [z]; exact fre_of hm))]; exact e
  refine ⟨⟨by simp [s.len], s.nod, fun j b x hj => ?_, s.dis, fun c hc => by rw [upd_ne (fun z => s.dis a ha (by rw [← z]; exact hc))]; exact s.exs c hc, fun j b x hj => ?_⟩, k⟩
  · by_cases hij : i = j
    · subst hij
      rw [List.getElem?_set_self'] at hj
      cases q : st[i]? with
      | none => rw [q] at hj; simp at hj
      | some y =>
        rw [q] at hj
        simp at hj
        obtain ⟨rfl, rfl⟩ := hj
        exact hpu
    · rw [List.getElem?_set_ne hij] at hj
      exact s.pu j b x hj
  · by_cases hij : i = j
    · subst hij
      rw [List.getElem?_set_self' ] at hj
      cases q : st[i]? with
      | none => rw [q] at hj; simp at hj
      | some y =>
        rw [q] at hj
        simp at hj
        obtain ⟨rfl, rfl⟩ := hj
        exact ⟨a, none, u, hm, hc.mono .refl k, upd_same⟩
    · rw [List.getElem?_set_ne hij] at hj
      obtain ⟨b', k', y, h1, h2, h3⟩ := s.at_ j b x hj
      have ne : b' ≠ a := by
        rintro rfl
        have z1 : m.ad[i]? = some b' := ad_get.mpr ⟨_, hm⟩
        have z2 : m.ad[j]? = some b' := ad_get.mpr ⟨_, h1⟩
        exact hij (ad_ix s.nod z1 z2)
      exact ⟨b', k', y, h1, h2.mono .refl k, Lk.keep h3 fun o' q => by rw [upd_ne ne]; exact q⟩

theorem CO.monoX {E : RE} {m m' : Ma} {H H' : Hp} {l : List Addr} (hx : Exs E H l) (e : Ext m m' H) (k : Keep m H H') {o : MO} {u : HO} (h : CO E m H o u) : CO (E.x l) m' H' o u := by
  cases o with
  | lst xs => obtain ⟨vs, h1, h2⟩ := h; exact ⟨vs, h1, h2.monoX hx e k⟩
  | dK ks xs => obtain ⟨vs, h1, h0, h2⟩ := h; exact ⟨vs, h1, h0, h2.monoX hx e k⟩
  | dT ks xs => obtain ⟨vs, h1, h0, h2⟩ := h; exact ⟨vs, h1, h0, h2.monoX hx e k⟩
  | ins c ns xs => obtain ⟨dx, vs, h1, h0, h2⟩ := h; exact ⟨dx, vs, h1, h0, h2.monoX hx e k⟩
theorem CO.less {E : RE} {m : Ma} {H : Hp} {l : List Addr} (hl : ∀ d ∈ E.ex, d ∈ l) {o : MO} {u : HO} (h : CO (E.x l) m H o u) : CO E m H o u := by
  cases o with
  | lst xs => obtain ⟨vs, h1, h2⟩ := h; exact ⟨vs, h1, h2.less hl⟩
  | dK ks xs => obtain ⟨vs, h1, h0, h2⟩ := h; exact ⟨vs, h1, h0, h2.less hl⟩
  | dT ks xs => obtain ⟨vs, h1, h0, h2⟩ := h; exact ⟨vs, h1, h0, h2.less hl⟩
  | ins c ns xs => obtain ⟨dx, vs, h1, h0, h2⟩ := h; exact ⟨dx, vs, h1, h0, h2.less hl⟩
theorem CO.wr {E : RE} {m : Ma} {H : Hp} {d : Addr} {x : HO} (hd : d ∈ E.ex) {o : MO} {u : HO} (h : CO E m H o u) : CO E m (upd H d x) o u := by
  cases o with
  | lst xs => obtain ⟨vs, h1, h2⟩ := h; exact ⟨vs, h1, h2.wr hd⟩
  | dK ks xs => obtain ⟨vs, h1, h0, h2⟩ := h; exact ⟨vs, h1, h0, h2.wr hd⟩
  | dT ks xs => obtain ⟨vs, h1, h0, h2⟩ := h; exact ⟨vs, h1, h0, h2.wr hd⟩
  | ins c ns xs => obtain ⟨dx, vs, h1, h0, h2⟩ := h; exact ⟨dx, vs, h1, h0, h2.wr hd⟩
/-- a new thing whose making begins -/
theorem JS.begin {E : RE} {m : Ma} {st : Sto} {H : Hp} (s : JS E m st H) {p : Addr} {o : HO} (h : H p = none) (ho : mkg o = true) : JS (E.x (p :: E.ex)) m st (upd H p o) := by
  have hx : Exs E H (p :: E.ex) := fun d hd => (List.mem_cons.mp hd).elim (fun z => .inr (by rw [z]; exact h)) .inl
  refine ⟨s.len, s.nod, s.pu, fun a ha z => ?_, fun a ha => ?_, fun i b u hi => ?_⟩
  · rcases List.mem_cons.mp z with z | z
    · exact (s.fresh h).1 (by rw [← z]; exact ha)
    · exact s.dis a ha z
  · by_cases e : a = p
    · rw [e, upd_same]; exact ⟨o, rfl, ho⟩
    · rw [upd_ne e]
      rcases List.mem_cons.mp ha with z | z
      · exact absurd z e
      · exact s.exs a z
  · obtain ⟨a, k, x, h1, h2, h3⟩ := s.at_ i b u hi
    exact ⟨a, k, x, h1, h2.monoX hx .refl (keep_new h), Lk.keep h3 fun o' e => by rw [upd_ne (ne_of_none e h)]; exact e⟩
theorem JS.wr {E : RE} {m : Ma} {st : Sto} {H : Hp} (s : JS E m st H) {d : Addr} {o : HO} (hd : d ∈ E.ex) (ho : mkg o = true) : JS E m st (upd H d o) :=
  ⟨s.len, s.nod, s.pu, s.dis, fun a ha => by
    by_cases e : a = d
    · rw [e, upd_same]; exact ⟨o, rfl, ho⟩
    · rw [upd_ne e]; exact s.exs a ha, fun i b u hi => by
    obtain ⟨a, k, x, h1, h2, h3⟩ := s.at_ i b u hi
    have ne : a ≠ d := fun z => s.dis a (List.mem_of_getElem? (ad_get.mpr ⟨k, h1⟩)) (by rw [z]; exact hd)
    exact ⟨a, k, x, h1, h2.wr hd, Lk.keep h3 fun o' e => by rw [upd_ne ne]; exact e⟩⟩
theorem JS.less {E : RE} {m : Ma} {st : Sto} {H : Hp} {l : List Addr} (hl : ∀ d ∈ E.ex, d ∈ l) (s : JS (E.x l) m st H) : JS E m st H :=
  ⟨s.len, s.nod, s.pu, fun a ha z => s.dis a ha (hl a z), fun a ha => s.exs a (hl a ha), fun i b u hi => by
    obtain ⟨a, k, x, h1, h2, h3⟩ := s.at_ i b u hi
    exact ⟨a, k, x, h1, h2.less hl, h3⟩⟩

/-! ### readings -/
/-- the exception that leaves: of the class c, with the values x -/
def XR (E : RE) (m : Ma) (H : Hp) (c : Nat) (x : List T) (cls : Value) (d : Option Addr) : Prop := cls = .ref (E.ca c) ∧ ((E.xn c = [] ∧ x = [] ∧ d = none) ∨ ∃ dd vs, d = some dd ∧ H dd = some (.xd ((E.xn c).zip vs)) ∧ (E.xn c).length = vs.length ∧ Rs E m H x vs)
/-- what is wanted behind an outcome, by what stands for it -/
def PZ {α β : Type} (E : RE) (W : XK) (rel : Ma → Hp → α → β → Prop) (m : Ma) (H : Hp) (Q : β → Hp → Prop) : Z α → Prop
  | .ok t st' => ∀ v H' m', Ext m m' H → Keep m H H' → JS E m' st' H' → rel m' H' t v → Q v H'
  | .exc c x st' => ∀ cls d H' m', Ext m m' H → Keep m H H' → JS E m' st' H' → XR E m' H' c x cls d → W cls d H'
  | .bad => False
abbrev rB : Ma → Hp → Bool → Bool → Prop := fun _ _ a b => a = b
def tF (E : RE) (W : XK) (f : Fx) : TE := fun σ H Q => ∃ ρ st m, J E m ρ st σ H ∧ PZ E W (R E) m H Q (f ρ st)
def tFs (E : RE) (W : XK) (f : Lo → Sto → Z (List T)) : TA := fun σ H Q => ∃ ρ st m, J E m ρ st σ H ∧ PZ E W (Rs E) m H Q (f ρ st)
def tFb (E : RE) (W : XK) (f : Lo → Sto → Z Bool) : TT := fun σ H Q => ∃ ρ st m, J E m ρ st σ H ∧ PZ E W rB m H Q (f ρ st)
/-- by values: a two-place operation, a one-place one, a call -/
def rF2 (E : RE) (W : XK) (h : T → T → Sto → Z T) : R2 := fun x y H Q => ∃ a b st m, JS E m st H ∧ R E m H a x ∧ R E m H b y ∧ PZ E W (R E) m H Q (h a b st)
def rF1 (E : RE) (W : XK) (h : T → Sto → Z T) : V → Hp → VK → Prop := fun x H Q => ∃ a st m, JS E m st H ∧ R E m H a x ∧ PZ E W (R E) m H Q (h a st)
def rFc (E : RE) (W : XK) (h : List T → Sto → Z T) : List V → Hp → VK → Prop := fun xs H Q => ∃ as st m, JS E m st H ∧ Rs E m H as xs ∧ PZ E W (R E) m H Q (h as st)
def rFm (E : RE) (W : XK) (h : T → List T → Sto → Z T) : V → List V → Hp → VK → Prop := fun x xs H Q => ∃ a as st m, JS E m st H ∧ R E m H a x ∧ Rs E m H as xs ∧ PZ E W (R E) m H Q (h a as st)
/-- how a statement ends -/
inductive Fl where
  | nx (ρ : Lo) | rt (t : T) | bk (ρ : Lo) | ct (ρ : Lo)
inductive Fv where
  | nx (σ : L2.St) | rt (v : V) | bk (σ : L2.St) | ct (σ : L2.St)
structure Lc (E : RE) (m : Ma) (H : Hp) (ρ : Lo) (σ : L2.St) : Prop where
  len : ρ.length = σ.length
  loc : ∀ (i : Nat) (t : T), ρ[i]? = some (some t) → ∃ v, σ[i]? = some (some v) ∧ R E m H t v
def rFl (E : RE) (m : Ma) (H : Hp) : Fl → Fv → Prop
  | .nx ρ, .nx σ => Lc E m H ρ σ
  | .rt t, .rt v => R E m H t v
  | .bk ρ, .bk σ => Lc E m H ρ σ
  | .ct ρ, .ct σ => Lc E m H ρ σ
  | _, _ => False
def toD (D : Ends) : Fv → Hp → Prop
  | .nx σ, H => D.nx σ H
  | .rt v, H => D.rt v H
  | .bk σ, H => D.bk σ H
  | .ct σ, H => D.ct σ H
abbrev Fs := Lo → Sto → Z Fl
def tS (E : RE) (W : XK) (f : Fs) : TS := fun D σ H => ∃ ρ st m, J E m ρ st σ H ∧ PZ E W (rFl E) m H (toD D) (f ρ st)
section
variable {E : RE} {W : XK} {m m' : Ma} {H H' : Hp} {st st' : Sto} {α β γ δ : Type} {rel : Ma → Hp → α → β → Prop} {rel2 : Ma → Hp → γ → δ → Prop}
theorem Lc.monoX {ρ : Lo} {σ : L2.St} {l : List Addr} (hx : Exs E H l) (c : Lc E m H ρ σ) (e : Ext m m' H) (k : Keep m H H') : Lc (E.x l) m' H' ρ σ := ⟨c.len, fun i t h => let ⟨v, h1, h2⟩ := c.loc i t h; ⟨v, h1, h2.monoX hx e k⟩⟩
theorem J.lc {ρ : Lo} {σ : L2.St} (j : J E m ρ st σ H) : Lc E m H ρ σ := ⟨j.len, j.loc⟩
theorem Lc.j {ρ : Lo} {σ : L2.St} (l : Lc E m H ρ σ) (s : JS E m st H) : J E m ρ st σ H := ⟨l.len, l.loc, s⟩
theorem Lc.mono {ρ : Lo} {σ : L2.St} (l : Lc E m H ρ σ) (e : Ext m m' H) (k : Keep m H H') : Lc E m' H' ρ σ := ⟨l.len, fun i t h => let ⟨v, h1, h2⟩ := l.loc i t h; ⟨v, h1, h2.mono e k⟩⟩
theorem Lc.set {ρ : Lo} {σ : L2.St} (l : Lc E m H ρ σ) (i : Nat) {t : T} {v : V} (r : R E m H t v) : Lc E m H (ρ.set i (some t)) (σ.set i (some v)) := by
  refine ⟨by simp [l.len], fun j u h => ?_⟩
  by_cases hij : i = j
  · subst hij
    rw [List.getElem?_set_self'] at h
    cases q : ρ[i]? with
    | none => rw [q] at h; simp at h
    | some x =>
      rw [q] at h
      simp at h
      subst h
      refine ⟨v, ?_, r⟩
      have : i < σ.length := by rw [← l.len]; exact (List.getElem?_eq_some_iff.mp q).1
      rw [List.getElem?_set_self this]
  · rw [List.getElem?_set_ne hij] at h
    obtain ⟨x, h1, h2⟩ := l.loc j u h
    exact ⟨x, by rw [List.getElem?_set_ne hij]; exact h1, h2⟩
theorem PZ.up {Q : β → Hp → Prop} (e : Ext m m' H) (k : Keep m H H') : ∀ {z : Z α}, PZ E W rel m H Q z → PZ E W rel m' H' Q z
  | .ok _ _, h => fun v H2 m2 e2 k2 s r => h v H2 m2 (e.trans k e2) (k.trans e k2) s r
  | .exc _ _ _, h => fun c d H2 m2 e2 k2 s r => h c d H2 m2 (e.trans k e2) (k.trans e k2) s r
  | .bad, h => h
theorem PZ.then {z : Z α} {k : α → Sto → Z γ} {Q : δ → Hp → Prop} (h : PZ E W rel2 m H Q (z.then k)) :
    PZ E W rel m H (fun v H1 => ∃ t s1 m1, z = .ok t s1 ∧ Ext m m1 H ∧ Keep m H H1 ∧ JS E m1 s1 H1 ∧ rel m1 H1 t v ∧ PZ E W rel2 m1 H1 Q (k t s1)) z := by
  cases z with
  | ok t s1 => exact fun v H1 m1 e k s r => ⟨t, s1, m1, rfl, e, k, s, r, PZ.up e k h⟩
  | exc c x s => exact h
  | bad => exact h
/-- the outcome stands as it is -/
theorem PZ.ok {Q : β → Hp → Prop} {t : α} {v : β} (h : PZ E W rel m H Q (.ok t st)) (s : JS E m st H) (r : rel m H t v) : Q v H := h v H m .refl .refl s r
/-- .. behind one step -/
theorem PZ.at {Q : β → Hp → Prop} {t : α} {v : β} (h : PZ E W rel m H Q (.ok t st)) (e : Ext m m' H) (k : Keep m H H') (s : JS E m' st H') (r : rel m' H' t v) : Q v H' := h v H' m' e k s r
/-- a new frozen thing -/
theorem PZ.new {Q : β → Hp → Prop} {t : α} {v : β} {p : Addr} {o : HO} (h : PZ E W rel m H Q (.ok t st)) (s : JS E m st H) (hp : H p = none) (r : rel m (upd H p o) t v) : Q v (upd H p o) := h v _ m .refl (keep_new hp) (s.new hp) r
/-- a new cell -/
theorem PZ.newc {Q : β → Hp → Prop} {t : α} {v : β} {p : Addr} {o : MO} {u : HO} (h : PZ E W rel m H Q (.ok t (st ++ [(false, o)]))) (s : JS E m st H) (hp : H p = none) (c : CO E m H o u) (hpu : o.pur = true) (r : rel (m ++ [(p, none)]) (upd H p u) t v) : Q v (upd H p u) :=
  h v _ _ (ext_cell s hp) (keep_new hp) (s.cell hp c hpu) r
end

/-! ### other readings of the same -/
section
variable {X : Cx}
theorem _root_.L2.PE.weak {e : Expr} {t t' : TE} (h : PE X e t) (w : ∀ σ H Q, t' σ H Q → t σ H Q) : PE X e t' := ⟨fun pins s σ H Q I q => h.run pins s σ H Q I (w σ H Q q)⟩
theorem _root_.L2.PT.weak {e : Expr} {t t' : TT} (h : PT X e t) (w : ∀ σ H Q, t' σ H Q → t σ H Q) : PT X e t' := ⟨fun pins s σ H Q I q => h.run pins s σ H Q I (w σ H Q q)⟩
theorem _root_.L2.PW.weak {e : Expr} {t t' : TT} (h : PW X e t) (w : ∀ σ H Q, t' σ H Q → t σ H Q) : PW X e t' := ⟨fun wh pins s σ H Q I q => h.run wh pins s σ H Q I (w σ H Q q)⟩
theorem _root_.L2.PA.weak {es : List Expr} {t t' : TA} (h : PA X es t) (w : ∀ σ H Q, t' σ H Q → t σ H Q) : PA X es t' := ⟨fun pos pins s σ H Q I q => h.run pos pins s σ H Q I (w σ H Q q)⟩
theorem _root_.L2.PS.weak {st : Stmt} {t t' : TS} (h : PS X st t) (w : ∀ D σ H, t' D σ H → t D σ H) : PS X st t' := ⟨fun pins s σ H D I q => h.run pins s σ H D I (w D σ H q)⟩
theorem _root_.L2.PSs.weak {st : List Stmt} {t t' : TS} (h : PSs X st t) (w : ∀ D σ H, t' D σ H → t D σ H) : PSs X st t' := ⟨fun pins s σ H D I q => h.run pins s σ H D I (w D σ H q)⟩
theorem OpR.weak {f : Value → Value → Sem Value} {r r' : R2} (h : OpR X f r) (w : ∀ x y H Q, r' x y H Q → r x y H Q) : OpR X f r' := fun pins s σ H x y v u Q I rx ry q => h pins s σ H x y v u Q I rx ry (w x y H Q q)
end
end Sh

set_option Elab.async false
set_option linter.all false
set_option maxRecDepth 100000
set_option maxHeartbeats 4000000
namespace Sh
open PySem PySem.Spec PyProof.Rows L2
section
variable {E : RE} {W : XK} {m m' : Ma} {H H' : Hp} {st st' : Sto} {α β γ δ : Type} {rel : Ma → Hp → α → β → Prop}
theorem PZ.imp {Q Q' : β → Hp → Prop} (w : ∀ v H, Q v H → Q' v H) : ∀ {z : Z α}, PZ E W rel m H Q z → PZ E W rel m H Q' z
  | .ok _ _, h => fun v H2 m2 e2 k2 s r => w v H2 (h v H2 m2 e2 k2 s r)
  | .exc _ _ _, h => h
  | .bad, h => h

/-! ### the functions -/
def vVar (i : Nat) : Fx := fun ρ st => match ρ[i]? with | some (some t) => .ok t st | _ => .bad
def vC (t : T) : Fx := fun _ st => .ok t st
def v1 (h : T → Sto → Z T) (fa : Fx) : Fx := fun ρ st => (fa ρ st).then h
def v2 (h : T → T → Sto → Z T) (fa fb : Fx) : Fx := fun ρ st => (fa ρ st).then fun x s => (fb ρ s).then fun y s => h x y s
abbrev Fa := Lo → Sto → Z (List T)
def aNil : Fa := fun _ st => .ok [] st
def aCons (fa : Fx) (fr : Fa) : Fa := fun ρ st => (fa ρ st).then fun x s => (fr ρ s).then fun xs s => .ok (x :: xs) s
def vA (h : List T → Sto → Z T) (fs : Fa) : Fx := fun ρ st => (fs ρ st).then h
def vM (h : T → List T → Sto → Z T) (fo : Fx) (fs : Fa) : Fx := fun ρ st => (fo ρ st).then fun x s => (fs ρ s).then fun xs s => h x xs s
abbrev Fb := Lo → Sto → Z Bool
def bOf (f : Fx) : Fb := fun ρ st => (f ρ st).then fun t s => match t with | .bl b => .ok b s | _ => .bad
def bNot (f : Fb) : Fb := fun ρ st => (f ρ st).then fun b s => .ok (!b) s
def bAnd (f g : Fb) : Fb := fun ρ st => (f ρ st).then fun b s => if b = true then g ρ s else .ok false s
def bOr (f g : Fb) : Fb := fun ρ st => (f ρ st).then fun b s => if b = true then .ok true s else g ρ s
def vAnd (f g : Fx) : Fx := fun ρ st => (bOf f ρ st).then fun b s => if b = true then g ρ s else .ok (.bl false) s
def vOr (f g : Fx) : Fx := fun ρ st => (bOf f ρ st).then fun b s => if b = true then .ok (.bl true) s else g ρ s
def vNot (f : Fx) : Fx := fun ρ st => (bOf f ρ st).then fun b s => .ok (.bl (!b)) s
def vIf (c : Fb) (f g : Fx) : Fx := fun ρ st => (c ρ st).then fun b s => if b = true then f ρ s else g ρ s
/-- a op b op' c -/
def v3 (h h' : T → T → Sto → Z T) (fa fb fc : Fx) : Fx := fun ρ st => (fa ρ st).then fun x s => (fb ρ s).then fun y s => (h x y s).then fun r s => match r with
  | .bl true => (fc ρ s).then fun z s => h' y z s
  | .bl false => .ok (.bl false) s
  | _ => .bad

/-! ### names, constants -/
section
variable {X : Cx} {e a b c : Expr} {es : List Expr} {pos p : Pos} {f fa fb fc : Fx} {fs : Fa} {h h' : T → T → Sto → Z T} {ga gb gc : Fb}
theorem x_var {i : Nat} {x : Str} (hN : X.N[i]? = some x := by rfl) (hv : Vis X.env.scope x := by first | exact Or.inl rfl | exact Or.inr (Or.inl rfl) | exact Or.inr (Or.inr rfl)) (hd : (x == ("__debug__" : Str)) = false := by decide)
    (hcd : (x == ("__classdict__" : Str)) = false := by decide) : PE X (.Name x pos) (tF E W (vVar i)) :=
  (pe_var hN hv hd hcd).weak fun σ H Q ⟨ρ, st, m, j, hp⟩ => by
    unfold vVar at hp
    cases q : ρ[i]? with
    | none => rw [q] at hp; exact hp.elim
    | some o =>
      cases o with
      | none => rw [q] at hp; exact hp.elim
      | some t =>
        rw [q] at hp
        obtain ⟨v, h1, h2⟩ := j.loc i t q
        exact ⟨v, h1, PZ.ok hp j.sto h2⟩
theorem x_c {v : V} {t : T} {e : Expr} (he : PE X e (tC v)) (hr : ∀ m H, R E m H t v) : PE X e (tF E W (vC t)) :=
  he.weak fun σ H Q ⟨ρ, st, m, j, hp⟩ => PZ.ok hp j.sto (hr m H)
theorem x_int {i : Int} {k} : PE X (.Constant (.int i) k pos) (tF E W (vC (.int i))) := x_c pe_int fun _ _ => rfl
theorem x_bl {i : Bool} {k} : PE X (.Constant (.bool i) k pos) (tF E W (vC (.bl i))) := x_c pe_bl fun _ _ => rfl
theorem x_non {k} : PE X (.Constant .none k pos) (tF E W (vC .non)) := x_c pe_non fun _ _ => rfl
theorem x_str {i : Str} {k} : PE X (.Constant (.str i) k pos) (tF E W (vC (.str i))) := x_c pe_str fun _ _ => rfl
/-- a module's constant -/
theorem x_gint {x : Str} {i : Int} {t : Tok} (hm : X.mg x = some (.int i t)) (hg : Gl X x := by rfl) (hd : (x == ("__debug__" : Str)) = false := by decide) : PE X (.Name x pos) (tF E W (vC (.int i))) := x_c (pe_glob (v := .int i) hg hm ⟨t, rfl⟩ hd) fun _ _ => rfl

/-! ### operators -/
theorem t_2 {σ : L2.St} {Q : VK} (q : tF E W (v2 h fa fb) σ H Q) : tOp (rF2 E W h) (tF E W fa) (tF E W fb) σ H Q := by
  obtain ⟨ρ, st, m, j, hp⟩ := q
  refine ⟨ρ, st, m, j, PZ.imp (fun v H1 z => ?_) (PZ.then (rel := R E) hp)⟩
  obtain ⟨x, s1, m1, _, e1, k1, js1, r1, q1⟩ := z
  refine ⟨ρ, s1, m1, j.step e1 k1 js1, PZ.imp (fun w H2 z => ?_) (PZ.then (rel := R E) q1)⟩
  obtain ⟨y, s2, m2, _, e2, k2, js2, r2, q2⟩ := z
  exact ⟨x, y, s2, m2, js2, r1.mono e2 k2, r2, q2⟩
theorem x_bin {op : Operator} (ho : OpR X (binaryOp op) (rF2 E W h)) (ha : PE X a (tF E W fa)) (hb : PE X b (tF E W fb)) : PE X (.BinOp a op b pos) (tF E W (v2 h fa fb)) := (pe_op ho ha hb).weak fun _ _ _ => t_2
theorem x_cmp {op : CmpOp} (ho : OpR X (compareOp op) (rF2 E W h)) (ha : PE X a (tF E W fa)) (hb : PE X b (tF E W fb)) (hm : behindInMarks op b = false := by first | exact nomark _ | rfl) : PE X (.Compare a [op] [b] pos) (tF E W (v2 h fa fb)) := (pe_cmpR ho ha hb hm).weak fun _ _ _ => t_2
theorem t_of {t : TE} {σ : L2.St} {Q : Bool → Hp → Prop} (w : ∀ Q : VK, tF E W f σ H Q → t σ H Q) (q : tFb E W (bOf f) σ H Q) : t σ H fun x H' => ∃ k, x = .bl k ∧ Q k H' := by
  obtain ⟨ρ, st, m, j, hp⟩ := q
  refine w _ ⟨ρ, st, m, j, PZ.imp (fun v H1 z => ?_) (PZ.then (rel := R E) hp)⟩
  obtain ⟨x, s1, m1, _, e1, k1, js1, r1, q1⟩ := z
  cases x with
  | bl k => exact ⟨k, r1, PZ.ok q1 js1 rfl⟩
  | _ => exact q1.elim
theorem b_cmp {op : CmpOp} (ho : OpR X (compareOp op) (rF2 E W h)) (ha : PE X a (tF E W fa)) (hb : PE X b (tF E W fb)) (hm : behindInMarks op b = false := by first | exact nomark _ | rfl) : PT X (.Compare a [op] [b] pos) (tFb E W (bOf (v2 h fa fb))) :=
  (pt_cmpR ho ha hb hm).weak fun _ _ _ q => t_of (fun _ => t_2) q
/-- an expression whose value is a bool, as a test -/
theorem b_val (he : PE X e (tF E W f)) (hw : ∀ whole, isTrue e X.env whole = (do let v ← whole; standAt e.pos; holding [v] (truthy v)) := by intro _; rfl) : PT X e (tFb E W (bOf f)) :=
  (pt_val he hw).weak fun _ _ _ q => t_of (fun _ z => z) q
theorem t_3 {σ : L2.St} {Q : VK} (q : tF E W (v3 h h' fa fb fc) σ H Q) : tChain (rF2 E W h) (rF2 E W h') (tF E W fa) (tF E W fb) (tF E W fc) σ H Q := by
  obtain ⟨ρ, st, m, j, hp⟩ := q
  refine ⟨ρ, st, m, j, PZ.imp (fun v H1 z => ?_) (PZ.then (rel := R E) hp)⟩
  obtain ⟨x, s1, m1, _, e1, k1, js1, r1, q1⟩ := z
  refine ⟨ρ, s1, m1, j.step e1 k1 js1, PZ.imp (fun w H2 z => ?_) (PZ.then (rel := R E) q1)⟩
  obtain ⟨y, s2, m2, _, e2, k2, js2, r2, q2⟩ := z
  refine ⟨x, y, s2, m2, js2, r1.mono e2 k2, r2, PZ.imp (fun u H3 z => ?_) (PZ.then (rel := R E) q2)⟩
  obtain ⟨t, s3, m3, _, e3, k3, js3, r3, q3⟩ := z
  cases t with
  | bl b =>
    refine ⟨b, r3, ?_⟩
    cases b with
    | true =>
      rw [if_pos rfl]
      have j3 : J E m3 ρ s3 σ H3 := ((j.step e1 k1 js1).step e2 k2 js2).step e3 k3 js3
      refine ⟨ρ, s3, m3, j3, PZ.imp (fun u H4 z => ?_) (PZ.then (rel := R E) q3)⟩
      obtain ⟨t4, s4, m4, _, e4, k4, js4, r4, q4⟩ := z
      exact ⟨y, t4, s4, m4, js4, (r2.mono e3 k3).mono e4 k4, r4, q4⟩
    | false =>
      rw [if_neg Bool.false_ne_true]
      exact PZ.ok q3 js3 rfl
  | _ => exact q3.elim
theorem x_chain {op op' : CmpOp} (ho : OpR X (compareOp op) (rF2 E W h)) (ho' : OpR X (compareOp op') (rF2 E W h')) (ha : PE X a (tF E W fa)) (hb : PE X b (tF E W fb)) (hc : PE X c (tF E W fc)) (hm : lastMarks [op, op'] [b, c] = false := by with_unfolding_all rfl) : PE X (.Compare a [op, op'] [b, c] pos) (tF E W (v3 h h' fa fb fc)) :=
  (pe_chain ho ho' ha hb hc hm).weak fun _ _ _ => t_3
theorem b_chain {op op' : CmpOp} (ho : OpR X (compareOp op) (rF2 E W h)) (ho' : OpR X (compareOp op') (rF2 E W h')) (ha : PE X a (tF E W fa)) (hb : PE X b (tF E W fb)) (hc : PE X c (tF E W fc)) (hm : lastMarks [op, op'] [b, c] = false := by with_unfolding_all rfl) : PT X (.Compare a [op, op'] [b, c] pos) (tFb E W (bOf (v3 h h' fa fb fc))) :=
  (pt_chain ho ho' ha hb hc hm).weak fun _ _ _ q => t_of (fun _ => t_3) q

/-! ### and, or, not, if -/
theorem b_not (ha : PT X a (tFb E W ga)) : PT X (.UnaryOp .Not a pos) (tFb E W (bNot ga)) := (pt_not ha).weak fun σ H Q ⟨ρ, st, m, j, hp⟩ => by
  refine ⟨ρ, st, m, j, PZ.imp (fun v H1 z => ?_) (PZ.then (rel := rB) hp)⟩
  obtain ⟨x, s1, m1, _, e1, k1, js1, r1, q1⟩ := z
  subst r1
  exact PZ.ok q1 js1 rfl
theorem w_1 {op} (ha : PT X a (tFb E W ga)) (ho : op = .And ∨ op = .Or := by first | exact Or.inl rfl | exact Or.inr rfl) : PW X (.BoolOp op [a] pos) (tFb E W ga) := by
  rcases ho with rfl | rfl
  · exact pw_and1 ha
  · exact pw_or1 ha
theorem w_and {rest : List Expr} (ha : PT X a (tFb E W ga)) (hb : PW X (.BoolOp .And (b :: rest) pos) (tFb E W gb)) : PW X (.BoolOp .And (a :: b :: rest) pos) (tFb E W (bAnd ga gb)) := (pw_and ha hb).weak fun σ H Q ⟨ρ, st, m, j, hp⟩ => by
  refine ⟨ρ, st, m, j, PZ.imp (fun v H1 z => ?_) (PZ.then (rel := rB) hp)⟩
  obtain ⟨x, s1, m1, _, e1, k1, js1, r1, q1⟩ := z
  subst r1
  cases x with
  | true => exact ⟨ρ, s1, m1, j.step e1 k1 js1, q1⟩
  | false => exact PZ.ok q1 js1 rfl
theorem w_or {rest : List Expr} (ha : PT X a (tFb E W ga)) (hb : PW X (.BoolOp .Or (b :: rest) pos) (tFb E W gb)) : PW X (.BoolOp .Or (a :: b :: rest) pos) (tFb E W (bOr ga gb)) := (pw_or ha hb).weak fun σ H Q ⟨ρ, st, m, j, hp⟩ => by
  refine ⟨ρ, st, m, j, PZ.imp (fun v H1 z => ?_) (PZ.then (rel := rB) hp)⟩
  obtain ⟨x, s1, m1, _, e1, k1, js1, r1, q1⟩ := z
  subst r1
  cases x with
  | true => exact PZ.ok q1 js1 rfl
  | false => exact ⟨ρ, s1, m1, j.step e1 k1 js1, q1⟩
/-- a bool's reading from the value's -/
theorem t_bo {σ : L2.St} {G : Bool → Hp → Prop} {ρ : Lo} (j : J E m ρ st σ H) (hp : PZ E W rB m H G (bOf f ρ st)) : tF E W f σ H fun x H' => ∃ k, x = .bl k ∧ G k H' := t_of (fun _ z => z) ⟨ρ, st, m, j, hp⟩
theorem x_one {op} (ha : PE X a (tF E W fa)) : PE X (.BoolOp op [a] pos) (tF E W fa) := pe_one ha
theorem x_and {rest : List Expr} (ha : PE X a (tF E W fa)) (hb : PE X (.BoolOp .And (b :: rest) pos) (tF E W fb)) : PE X (.BoolOp .And (a :: b :: rest) pos) (tF E W (vAnd fa fb)) := (pe_and ha hb).weak fun σ H Q ⟨ρ, st, m, j, hp⟩ => by
  refine t_bo j (PZ.imp (fun v H1 z => ?_) (PZ.then (rel := rB) hp))
  obtain ⟨x, s1, m1, _, e1, k1, js1, r1, q1⟩ := z
  subst r1
  cases x with
  | true => exact ⟨ρ, s1, m1, j.step e1 k1 js1, q1⟩
  | false => exact PZ.ok q1 js1 rfl
theorem x_or {rest : List Expr} (ha : PE X a (tF E W fa)) (hb : PE X (.BoolOp .Or (b :: rest) pos) (tF E W fb)) : PE X (.BoolOp .Or (a :: b :: rest) pos) (tF E W (vOr fa fb)) := (pe_or ha hb).weak fun σ H Q ⟨ρ, st, m, j, hp⟩ => by
  refine t_bo j (PZ.imp (fun v H1 z => ?_) (PZ.then (rel := rB) hp))
  obtain ⟨x, s1, m1, _, e1, k1, js1, r1, q1⟩ := z
  subst r1
  cases x with
  | true => exact PZ.ok q1 js1 rfl
  | false => exact ⟨ρ, s1, m1, j.step e1 k1 js1, q1⟩
theorem x_not (ha : PE X a (tF E W fa)) : PE X (.UnaryOp .Not a pos) (tF E W (vNot fa)) := (pe_not ha).weak fun σ H Q ⟨ρ, st, m, j, hp⟩ => by
  refine t_bo j (PZ.imp (fun v H1 z => ?_) (PZ.then (rel := rB) hp))
  obtain ⟨x, s1, m1, _, e1, k1, js1, r1, q1⟩ := z
  subst r1
  exact PZ.ok q1 js1 rfl
theorem x_if (hc : PT X c (tFb E W gc)) (ha : PE X a (tF E W fa)) (hb : PE X b (tF E W fb)) : PE X (.IfExp c a b pos) (tF E W (vIf gc fa fb)) := (pe_ifExp hc ha hb).weak fun σ H Q ⟨ρ, st, m, j, hp⟩ => by
  refine ⟨ρ, st, m, j, PZ.imp (fun v H1 z => ?_) (PZ.then (rel := rB) hp)⟩
  obtain ⟨x, s1, m1, _, e1, k1, js1, r1, q1⟩ := z
  subst r1
  cases x with
  | true => exact ⟨ρ, s1, m1, j.step e1 k1 js1, q1⟩
  | false => exact ⟨ρ, s1, m1, j.step e1 k1 js1, q1⟩

/-! ### argument lists, displays -/
theorem a_nil : PA X [] (tFs E W aNil) := pa_nil.weak fun σ H Q ⟨ρ, st, m, j, hp⟩ => PZ.ok hp j.sto (rfl : Rs E m H [] [])
theorem a_cons (ha : PE X e (tF E W fa)) (hr : PA X es (tFs E W fs)) (hs : starEach (e :: es) X.env = (false, eval e X.env) :: starEach es X.env := by rfl) : PA X (e :: es) (tFs E W (aCons fa fs)) := (pa_cons ha hr hs).weak fun σ H Q ⟨ρ, st, m, j, hp⟩ => by
  refine ⟨ρ, st, m, j, PZ.imp (fun v H1 z => ?_) (PZ.then (rel := R E) hp)⟩
  obtain ⟨x, s1, m1, _, e1, k1, js1, r1, q1⟩ := z
  refine ⟨ρ, s1, m1, j.step e1 k1 js1, PZ.imp (fun w H2 z => ?_) (PZ.then (rel := Rs E) q1)⟩
  obtain ⟨y, s2, m2, _, e2, k2, js2, r2, q2⟩ := z
  exact PZ.ok q2 js2 ⟨v, w, rfl, r1.mono e2 k2, r2⟩
theorem Rs.length : ∀ {ts : List T} {vs : List V}, Rs E m H ts vs → ts.length = vs.length
  | [], vs, h => by rw [(show vs = [] from h)]; rfl
  | _ :: _, _, ⟨_, _, e, _, h⟩ => by rw [e, List.length_cons, List.length_cons, Rs.length h]
/-- a length that is small enough -/
def lim : Nat := 100000
theorem lim_line {n : Nat} (h : n ≤ lim) : n ≤ sizeLine := Nat.le_trans h (by decide)
theorem lim_lt {n : Nat} (h : n ≤ lim) : n < sizeLine := Nat.lt_of_le_of_lt h (by decide)
def hTup : List T → Sto → Z T := fun xs s => if xs.length ≤ lim then .ok (.tup xs) s else .bad
def hLst : List T → Sto → Z T := fun xs s => if xs.length ≤ lim then .ok (.lst xs) s else .bad
def hLstC : List T → Sto → Z T := fun xs s => if (decide (xs.length ≤ lim) && purs xs) = true then .ok (.cell s.length) (s ++ [(false, .lst xs)]) else .bad
theorem cell_new {s : Sto} (js : JS E m s H) {p : Addr} {o : HO} : R E (m ++ [(p, none)]) (upd H p o) (.cell s.length) (.ref p) := by
  refine ⟨p, ad_get.mpr ⟨none, ?_⟩, rfl⟩
  rw [List.getElem?_append_right (by rw [js.len]; exact Nat.le_refl _), js.len]
  simp
theorem x_tup {k} (hs : PA X es (tFs E W fs)) : PE X (.Tuple es k pos) (tF E W (vA hTup fs)) := (pe_tup hs).weak fun σ H Q ⟨ρ, st, m, j, hp⟩ => by
  refine ⟨ρ, st, m, j, PZ.imp (fun v H1 z => ?_) (PZ.then (rel := Rs E) hp)⟩
  obtain ⟨x, s1, m1, _, e1, k1, js1, r1, q1⟩ := z
  unfold hTup at q1
  by_cases hl : x.length ≤ lim
  · rw [if_pos hl] at q1
    refine ⟨by rw [← r1.length]; exact lim_line hl, fun p np => PZ.new q1 js1 np ⟨p, v, rfl, js1.fresh np, upd_same, r1.mono .refl (keep_new np)⟩⟩
  · rw [if_neg hl] at q1; exact q1.elim
theorem x_lst (hs : PA X es (tFs E W fs)) : PE X (.List es pos) (tF E W (vA hLst fs)) := (pe_lst hs).weak fun σ H Q ⟨ρ, st, m, j, hp⟩ => by
  refine ⟨ρ, st, m, j, PZ.imp (fun v H1 z => ?_) (PZ.then (rel := Rs E) hp)⟩
  obtain ⟨x, s1, m1, _, e1, k1, js1, r1, q1⟩ := z
  unfold hLst at q1
  by_cases hl : x.length ≤ lim
  · rw [if_pos hl] at q1
    refine ⟨by rw [← r1.length]; exact lim_line hl, fun p np => PZ.new q1 js1 np ⟨p, v, rfl, js1.fresh np, upd_same, r1.mono .refl (keep_new np)⟩⟩
  · rw [if_neg hl] at q1; exact q1.elim
theorem x_lstC (hs : PA X es (tFs E W fs)) : PE X (.List es pos) (tF E W (vA hLstC fs)) := (pe_lst hs).weak fun σ H Q ⟨ρ, st, m, j, hp⟩ => by
  refine ⟨ρ, st, m, j, PZ.imp (fun v H1 z => ?_) (PZ.then (rel := Rs E) hp)⟩
  obtain ⟨x, s1, m1, _, e1, k1, js1, r1, q1⟩ := z
  unfold hLstC at q1
  by_cases hl : (decide (x.length ≤ lim) && purs x) = true
  · rw [if_pos hl] at q1
    rw [Bool.and_eq_true] at hl
    exact ⟨by rw [← r1.length]; exact lim_line (of_decide_eq_true hl.1), fun p np => PZ.newc q1 js1 np ⟨v, rfl, r1⟩ hl.2 (cell_new js1)⟩
  · rw [if_neg hl] at q1; exact q1.elim
end
end
end Sh

set_option Elab.async false
set_option linter.all false
set_option maxRecDepth 100000
set_option maxHeartbeats 4000000
namespace Sh
open PySem PySem.Spec PyProof.Rows L2
/-! ### a tree as data -/
mutual
def toPy : T → Option PyData
  | .non => some .none
  | .bl b => some (.bool b)
  | .int i => some (.int i)
  | .str x => some (.str x)
  | .tup xs => match toPys xs with | some ds => some (.tuple ds) | none => none
  | .lst xs => match toPys xs with | some ds => some (.list ds) | none => none
  | .scr xs => match toPys xs with | some ds => some (.list ds) | none => none
  | .tupK xs => match toPys xs with | some ds => some (.tuple ds) | none => none
  | .dK _ _ => none
  | .dT _ _ => none
  | .ins _ _ => none
  | .cell _ => none
def toPys : List T → Option (List PyData)
  | [] => some []
  | x :: xs => match toPy x, toPys xs with | some d, some ds => some (d :: ds) | _, _ => none
end
section
variable {E : RE} {W : XK} {m m' : Ma} {H H' : Hp} {st st' : Sto} {X : Cx}
theorem R.tupS {xs : List T} {v : V} (h : R E m H (.tup xs) v) : ∃ a vs, v = .ref a ∧ SqT E.K H a vs ∧ Rs E m H xs vs := by
  obtain ⟨a, vs, ev, na, hs, hr⟩ := h
  exact ⟨a, vs, ev, .of hs, hr⟩
theorem R.tupKS {xs : List T} {v : V} (h : R E m H (.tupK xs) v) : ∃ a vs, v = .ref a ∧ SqT E.K H a vs ∧ Rs E m H xs vs := by
  obtain ⟨a, vs, ev, hs, hr⟩ := h
  exact ⟨a, vs, ev, .inr hs, hr⟩
theorem R.lstS {xs : List T} {v : V} (h : R E m H (.lst xs) v) : ∃ a vs, v = .ref a ∧ SqL E.K H a vs ∧ Rs E m H xs vs := by
  obtain ⟨a, vs, ev, na, hs, hr⟩ := h
  exact ⟨a, vs, ev, .of hs, hr⟩
theorem R.scrS {xs : List T} {v : V} (h : R E m H (.scr xs) v) : ∃ a vs, v = .ref a ∧ SqL E.K H a vs ∧ Rs E m H xs vs := by
  obtain ⟨a, vs, ev, hs, hr⟩ := h
  exact ⟨a, vs, ev, hs.elim (fun z => .inl z.2) .inr, hr⟩
mutual
theorem R.dp : ∀ {t : T} {v : V} {d : PyData}, R E m H t v → toPy t = some d → Dp E.K H v d
  | .non, _, _, r, h => by cases (show _ = V.non from r); cases h; exact .non
  | .bl b, _, _, r, h => by cases (show _ = V.bl b from r); cases h; exact .bl b
  | .int i, _, _, r, h => by cases (show _ = V.int i from r); cases h; exact .int i
  | .str x, _, _, r, h => by cases (show _ = V.str x from r); cases h; exact .str x
  | .tup xs, _, _, r, h => by
    obtain ⟨a, vs, rfl, hs, hr⟩ := r.tupS
    unfold toPy at h
    cases q : toPys xs with
    | none => rw [q] at h; cases h
    | some ds => rw [q] at h; cases h; exact .tup hs (Rs.dp hr q)
  | .lst xs, _, _, r, h => by
    obtain ⟨a, vs, rfl, hs, hr⟩ := r.lstS
    unfold toPy at h
    cases q : toPys xs with
    | none => rw [q] at h; cases h
    | some ds => rw [q] at h; cases h; exact .lst hs (Rs.dp hr q)
  | .scr xs, _, _, r, h => by
    obtain ⟨a, vs, rfl, hs, hr⟩ := r.scrS
    unfold toPy at h
    cases q : toPys xs with
    | none => rw [q] at h; cases h
    | some ds => rw [q] at h; cases h; exact .lst hs (Rs.dp hr q)
  | .tupK xs, _, _, r, h => by
    obtain ⟨a, vs, rfl, hs, hr⟩ := r.tupKS
    unfold toPy at h
    cases q : toPys xs with
    | none => rw [q] at h; cases h
    | some ds => rw [q] at h; cases h; exact .tup hs (Rs.dp hr q)
  | .dK _ _, _, _, _, h => by cases h
  | .dT _ _, _, _, _, h => by cases h
  | .ins _ _, _, _, _, h => by cases h
  | .cell _, _, _, _, h => by cases h
theorem Rs.dp : ∀ {ts : List T} {vs : List V} {ds : List PyData}, Rs E m H ts vs → toPys ts = some ds → DpAll E.K H vs ds
  | [], _, _, r, h => by cases (show _ = [] from r); cases h; exact .nil
  | x :: xs, _, _, r, h => by
    obtain ⟨v, vr, rfl, r1, r2⟩ := r
    unfold toPys at h
    cases q : toPy x with
    | none => rw [q] at h; cases h
    | some d =>
      cases q2 : toPys xs with
      | none => rw [q, q2] at h; cases h
      | some ds => rw [q, q2] at h; cases h; exact .cons (R.dp r1 q) (Rs.dp r2 q2)
end

/-! ### operators by values -/
def hAdd : T → T → Sto → Z T := fun a b s => match a, b with
  | .int i, .int j => .ok (.int (i + j)) s
  | .str x, .str y => if x.length + y.length ≤ lim then .ok (.str (x ++ y)) s else .bad
  | .lst xs, .lst ys => if xs.length + ys.length ≤ lim then .ok (.lst (xs ++ ys)) s else .bad
  | .tup (x :: xs), .tup ys => if xs.length + 1 + ys.length ≤ lim then .ok (.tup (x :: xs ++ ys)) s else .bad
  | _, _ => .bad
theorem Rs.append : ∀ {xs ys : List T} {vs ws : List V}, Rs E m H xs vs → Rs E m H ys ws → Rs E m H (xs ++ ys) (vs ++ ws)
  | [], _, _, _, h, k => by cases (show _ = [] from h); exact k
  | _ :: _, _, _, _, ⟨v, r, e, h1, h2⟩, k => by subst e; exact ⟨v, _, rfl, h1, Rs.append h2 k⟩
theorem o_add (hK : X.K = E.K) : OpR X (binaryOp .Add) (rF2 E W hAdd) := by
  intro pins s σ H x y v u Q I rx ry h
  obtain ⟨a, b, st, m, js, ra, rb, q⟩ := h
  unfold hAdd at q
  split at q
  · cases (show x = _ from ra); cases (show y = _ from rb)
    exact op_add pins s σ H _ _ v u Q I rx ry ⟨_, _, rfl, rfl, PZ.ok q js rfl⟩
  · cases (show x = _ from ra); cases (show y = _ from rb)
    split at q
    · rename_i hl
      exact op_add_str pins s σ H _ _ v u Q I rx ry ⟨_, _, rfl, rfl, lim_line hl, PZ.ok q js rfl⟩
    · exact q.elim
  · rename_i xs ys
    split at q
    · rename_i hl
      obtain ⟨p, vs, rfl, np, hp, hr⟩ := ra
      obtain ⟨p2, ws, rfl, np2, hp2, hr2⟩ := rb
      exact op_cat pins s σ H _ _ v u Q I rx ry ⟨p, p2, vs, ws, rfl, rfl, hp, hp2, by rw [← hr.length, ← hr2.length]; exact lim_line hl, fun z nz => PZ.new q js nz ⟨z, _, rfl, js.fresh nz, upd_same, (hr.append hr2).mono .refl (keep_new nz)⟩⟩
    · exact q.elim
  · rename_i t xs ys
    split at q
    · rename_i hl
      have ra0 := ra
      obtain ⟨p, vs, rfl, hp, hr⟩ := ra.tupS
      obtain ⟨p2, ws, rfl, hp2, hr2⟩ := rb.tupS
      refine op_catT pins s σ H _ _ v u Q I rx ry ⟨p, p2, vs, ws, rfl, rfl, hK ▸ hp, hK ▸ hp2, fun z => ?_, ?_, fun e => ?_, fun _ z nz => PZ.new q js nz ⟨z, _, rfl, js.fresh nz, upd_same, (hr.append hr2).mono .refl (keep_new nz)⟩⟩
      · subst z
        have := hr.length
        simp at this
      · rw [← hr.length, ← hr2.length]
        exact lim_line (by simpa using hl)
      · subst e
        have := hr2.length
        cases ys with
        | nil => rw [List.append_nil] at q; exact PZ.ok q js ra0
        | cons _ _ => simp at this
    · exact q.elim
  · exact q.elim
def hI2 (C : Int → Int → Bool) (g : Int → Int → Int) : T → T → Sto → Z T := fun a b s => match a, b with
  | .int i, .int j => if C i j = true then .ok (.int (g i j)) s else .bad
  | _, _ => .bad
theorem o_int {f : Value → Value → Sem Value} {C : Int → Int → Prop} {B : Int → Int → Bool} {g : Int → Int → Int} (ho : OpR X f (rI C fun i j => .int (g i j))) (hB : ∀ i j, B i j = true → C i j) : OpR X f (rF2 E W (hI2 B g)) := by
  intro pins s σ H x y v u Q I rx ry h
  obtain ⟨a, b, st, m, js, ra, rb, q⟩ := h
  unfold hI2 at q
  split at q
  · cases (show x = _ from ra); cases (show y = _ from rb)
    split at q
    · rename_i i j hc
      exact ho pins s σ H _ _ v u Q I rx ry ⟨_, _, rfl, rfl, hB _ _ hc, PZ.ok q js rfl⟩
    · exact q.elim
  · exact q.elim
def hSub := hI2 (fun _ _ => true) fun i j => i - j
def hMul := hI2 (fun i j => decide ((-(2 ^ 64) < i ∧ i < 2 ^ 64) ∨ (-(2 ^ 64) < j ∧ j < 2 ^ 64))) fun i j => i * j
def hMod := hI2 (fun _ j => decide (j ≠ 0)) fun i j => i.fmod j
def hDiv := hI2 (fun _ j => decide (j ≠ 0 ∧ j.natAbs < 1073741824)) fun i j => i.fdiv j
theorem o_sub : OpR X (binaryOp .Sub) (rF2 E W hSub) := o_int (C := fun _ _ => True) (fun pins s σ H x y v u Q I rx ry ⟨i, j, e1, e2, _, q⟩ => op_sub pins s σ H x y v u Q I rx ry ⟨i, j, e1, e2, q⟩) fun _ _ _ => trivial
theorem o_mul : OpR X (binaryOp .Mult) (rF2 E W hMul) := o_int op_mul fun _ _ h => by have z := of_decide_eq_true h; exact z
theorem o_mod : OpR X (binaryOp .Mod) (rF2 E W hMod) := o_int op_modN fun _ _ h => of_decide_eq_true h
theorem o_div : OpR X (binaryOp .FloorDiv) (rF2 E W hDiv) := o_int op_fdivN fun _ _ h => by have z := of_decide_eq_true h; exact z
/-- <, <=, >, >= of ints and of texts -/
def hOrd (g : Int → Int → Bool) (k : Str → Str → Bool) : T → T → Sto → Z T := fun a b s => match a, b with
  | .int i, .int j => .ok (.bl (g i j)) s
  | .str x, .str y => .ok (.bl (k x y)) s
  | _, _ => .bad
theorem o_ord {f : Value → Value → Sem Value} {g : Int → Int → Bool} {k : Str → Str → Bool} (hi : OpR X f (rI0 fun i j => .bl (g i j))) (hs : OpR X f (fun x y H Q => ∃ i j, x = .str i ∧ y = .str j ∧ Q (.bl (k i j)) H)) : OpR X f (rF2 E W (hOrd g k)) := by
  intro pins s σ H x y v u Q I rx ry h
  obtain ⟨a, b, st, m, js, ra, rb, q⟩ := h
  unfold hOrd at q
  split at q
  · cases (show x = _ from ra); cases (show y = _ from rb)
    exact hi pins s σ H _ _ v u Q I rx ry ⟨_, _, rfl, rfl, PZ.ok q js rfl⟩
  · cases (show x = _ from ra); cases (show y = _ from rb)
    exact hs pins s σ H _ _ v u Q I rx ry ⟨_, _, rfl, rfl, PZ.ok q js rfl⟩
  · exact q.elim
def hLt := hOrd (fun i j => decide (i < j)) fun x y => decide (x.cps.toList < y.cps.toList)
def hLe := hOrd (fun i j => decide (i ≤ j)) fun x y => !decide (y.cps.toList < x.cps.toList)
def hGt := hOrd (fun i j => decide (j < i)) fun x y => decide (y.cps.toList < x.cps.toList)
def hGe := hOrd (fun i j => decide (j ≤ i)) fun x y => !decide (x.cps.toList < y.cps.toList)
theorem o_lt : OpR X (compareOp .Lt) (rF2 E W hLt) := o_ord op_lt op_lt_str
theorem o_le : OpR X (compareOp .LtE) (rF2 E W hLe) := o_ord op_le op_le_str
theorem o_gt : OpR X (compareOp .Gt) (rF2 E W hGt) := o_ord op_gt op_gt_str
theorem o_ge : OpR X (compareOp .GtE) (rF2 E W hGe) := o_ord op_ge op_ge_str
/-- ==, != of data -/
def hEq (p : Bool) : T → T → Sto → Z T := fun a b s => match toPy a, toPy b with
  | some d, some e => if (SeqAt.shaped d && SeqAt.shaped e) = true then .ok (.bl (if p then PyData.eqv d e else !PyData.eqv d e)) s else .bad
  | _, _ => .bad
theorem o_eqs {f : Value → Value → Sem Value} {p : Bool} (hK : X.K = E.K) (ho : OpR X f (fun x y H Q => ∃ d e, Dp X.K H x d ∧ Dp X.K H y e ∧ SeqAt.shaped d = true ∧ SeqAt.shaped e = true ∧ Q (.bl (if p then PyData.eqv d e else !PyData.eqv d e)) H)) : OpR X f (rF2 E W (hEq p)) := by
  intro pins s σ H x y v u Q I rx ry h
  obtain ⟨a, b, st, m, js, ra, rb, q⟩ := h
  unfold hEq at q
  split at q
  · rename_i d e h1 h2
    split at q
    · rename_i hs
      rw [Bool.and_eq_true] at hs
      exact ho pins s σ H x y v u Q I rx ry ⟨d, e, hK ▸ ra.dp h1, hK ▸ rb.dp h2, hs.1, hs.2, PZ.ok q js rfl⟩
    · exact q.elim
  · exact q.elim
theorem o_eq (hK : X.K = E.K) (hu : X.A.units + 64 < cLine) : OpR X (compareOp .Eq) (rF2 E W (hEq true)) := o_eqs hK (op_eqD hu)
theorem o_ne (hK : X.K = E.K) (hu : X.A.units + 64 < cLine) : OpR X (compareOp .NotEq) (rF2 E W (hEq false)) := o_eqs hK (op_neD hu)
/-- is None, is True -/
def hIs (p : Bool) : T → T → Sto → Z T := fun a b s => match b with
  | .non => .ok (.bl (match a with | .non => p | _ => !p)) s
  | .bl k => match a with | .bl l => .ok (.bl (if p then decide (l = k) else !decide (l = k))) s | _ => .bad
  | _ => .bad
theorem R.nonD {t : T} {v : V} (r : R E m H t v) : decide (v = .non) = match t with | .non => true | _ => false := by
  cases t with
  | non => cases (show v = _ from r); rfl
  | bl b => cases (show v = _ from r); rfl
  | int b => cases (show v = _ from r); rfl
  | str b => cases (show v = _ from r); rfl
  | tup _ => obtain ⟨a, _, e, _⟩ := r; subst e; rfl
  | lst _ => obtain ⟨a, _, e, _⟩ := r; subst e; rfl
  | scr _ => obtain ⟨a, _, e, _⟩ := r; subst e; rfl
  | tupK _ => obtain ⟨a, _, e, _⟩ := r; subst e; rfl
  | dK _ _ => obtain ⟨a, _, e, _⟩ := r; subst e; rfl
  | dT _ _ => obtain ⟨a, _, e, _⟩ := r; subst e; rfl
  | ins _ _ => obtain ⟨a, _, _, e, _⟩ := r; subst e; rfl
  | cell _ => obtain ⟨a, _, e⟩ := r; subst e; rfl
theorem o_is : OpR X (compareOp .Is) (rF2 E W (hIs true)) := by
  intro pins s σ H x y v u Q I rx ry h
  obtain ⟨a, b, st, m, js, ra, rb, q⟩ := h
  unfold hIs at q
  split at q
  · cases (show y = _ from rb)
    refine op_isN pins s σ H x _ v u Q I rx ry ⟨rfl, ?_⟩
    rw [ra.nonD]
    have := PZ.ok (v := V.bl _) q js rfl
    cases a <;> exact this
  · cases (show y = _ from rb)
    split at q
    · cases (show x = _ from ra)
      exact op_isBl pins s σ H _ _ v u Q I rx ry ⟨_, _, rfl, rfl, PZ.ok q js rfl⟩
    · exact q.elim
  · exact q.elim
theorem o_isnot : OpR X (compareOp .IsNot) (rF2 E W (hIs false)) := by
  intro pins s σ H x y v u Q I rx ry h
  obtain ⟨a, b, st, m, js, ra, rb, q⟩ := h
  unfold hIs at q
  split at q
  · cases (show y = _ from rb)
    refine op_notN pins s σ H x _ v u Q I rx ry ⟨rfl, ?_⟩
    rw [ra.nonD]
    have := PZ.ok (v := V.bl _) q js rfl
    cases a <;> exact this
  · cases (show y = _ from rb)
    split at q
    · cases (show x = _ from ra)
      exact op_notBl pins s σ H _ _ v u Q I rx ry ⟨_, _, rfl, rfl, PZ.ok q js rfl⟩
    · exact q.elim
  · exact q.elim
end
end Sh

set_option Elab.async false
set_option linter.all false
set_option maxRecDepth 100000
set_option maxHeartbeats 4000000
namespace Sh
open PySem PySem.Spec PyProof.Rows L2
/-! ### what a tree holds -/
def asL (s : Sto) : T → Option (List T)
  | .lst xs => some xs
  | .scr xs => some xs
  | .cell i => match s[i]? with | some (_, .lst xs) => some xs | _ => none
  | _ => none
def asT : T → Option (List T)
  | .tup xs => some xs
  | .tupK xs => some xs
  | _ => none
def asDK (s : Sto) : T → Option (List Key × List T)
  | .dK ks xs => some (ks, xs)
  | .cell i => match s[i]? with | some (_, .dK ks xs) => some (ks, xs) | _ => none
  | _ => none
def asDT (s : Sto) : T → Option (List (List Key) × List T)
  | .dT ks xs => some (ks, xs)
  | .cell i => match s[i]? with | some (_, .dT ks xs) => some (ks, xs) | _ => none
  | _ => none
def key : T → Option Key
  | .int i => some (.inl i)
  | .str x => some (.inr x)
  | _ => none
def keysOf : List T → Option (List Key)
  | [] => some []
  | x :: xs => match key x, keysOf xs with | some k, some ks => some (k :: ks) | _, _ => none
def keyT : T → Option (List Key)
  | .tup xs => keysOf xs
  | _ => none
def kget {κ : Type} [DecidableEq κ] : List κ → List T → κ → Option T
  | k :: ks, x :: xs, q => if k = q then some x else kget ks xs q
  | _, _, _ => none
section
variable {E : RE} {W : XK} {m m' : Ma} {H H' : Hp} {st s s' : Sto} {X : Cx} {t : T} {v : V} {xs : List T}
theorem cell_of {i : Nat} (js : JS E m s H) (r : R E m H (.cell i) v) {b : Bool} {o : MO} (h : s[i]? = some (b, o)) : ∃ a k u, v = .ref a ∧ m[i]? = some (a, k) ∧ CO E m H o u ∧ Lk H a u b k := by
  obtain ⟨a, k, u, h1, h2, h3⟩ := js.at_ i b o h
  obtain ⟨a', h4, rfl⟩ := r
  obtain ⟨k', h5⟩ := ad_get.mp h4
  rw [h1] at h5
  cases h5
  exact ⟨a, k, u, rfl, h1, h2, h3⟩
theorem asL_ok (h : asL s t = some xs) (js : JS E m s H) (r : R E m H t v) : ∃ a vs, v = .ref a ∧ SqL E.K H a vs ∧ Rs E m H xs vs := by
  cases t with
  | lst ys => cases h; exact r.lstS
  | scr ys => cases h; exact r.scrS
  | cell i =>
    unfold asL at h
    dsimp only at h
    cases q : s[i]? with
    | none => rw [q] at h; cases h
    | some p =>
      obtain ⟨b, o⟩ := p
      rw [q] at h
      cases o with
      | lst ys =>
        cases h
        obtain ⟨a, k, u, rfl, _, ⟨vs, rfl, hr⟩, lk⟩ := cell_of js r q
        exact ⟨a, vs, rfl, .inl lk.rd, hr⟩
      | dK _ _ => cases h
      | dT _ _ => cases h
      | ins _ _ _ => cases h
  | _ => cases h
theorem asT_ok (h : asT t = some xs) (r : R E m H t v) : ∃ a vs, v = .ref a ∧ SqT E.K H a vs ∧ Rs E m H xs vs := by
  cases t with
  | tup ys => cases h; exact r.tupS
  | tupK ys => cases h; exact r.tupKS
  | _ => cases h
theorem asDK_ok {ks : List Key} (h : asDK s t = some (ks, xs)) (js : JS E m s H) (r : R E m H t v) : ∃ a vs, v = .ref a ∧ Rd H a (.dK (ks.zip vs)) ∧ ks.length = vs.length ∧ Rs E m H xs vs := by
  cases t with
  | dK ls ys =>
    cases h
    obtain ⟨a, vs, ev, na, hs, hl, hr⟩ := r
    exact ⟨a, vs, ev, hs, hl, hr⟩
  | cell i =>
    unfold asDK at h
    dsimp only at h
    cases q : s[i]? with
    | none => rw [q] at h; cases h
    | some p =>
      obtain ⟨b, o⟩ := p
      rw [q] at h
      cases o with
      | dK ls ys =>
        cases h
        obtain ⟨a, k, u, rfl, _, ⟨vs, rfl, hl, hr⟩, lk⟩ := cell_of js r q
        exact ⟨a, vs, rfl, lk.rd, hl, hr⟩
      | lst _ => cases h
      | dT _ _ => cases h
      | ins _ _ _ => cases h
  | _ => cases h
theorem asDT_ok {ks : List (List Key)} (h : asDT s t = some (ks, xs)) (js : JS E m s H) (r : R E m H t v) : ∃ a vs, v = .ref a ∧ Rd H a (.dT (ks.zip vs)) ∧ ks.length = vs.length ∧ Rs E m H xs vs := by
  cases t with
  | dT ls ys =>
    cases h
    obtain ⟨a, vs, ev, na, hs, hl, hr⟩ := r
    exact ⟨a, vs, ev, hs, hl, hr⟩
  | cell i =>
    unfold asDT at h
    dsimp only at h
    cases q : s[i]? with
    | none => rw [q] at h; cases h
    | some p =>
      obtain ⟨b, o⟩ := p
      rw [q] at h
      cases o with
      | dT ls ys =>
        cases h
        obtain ⟨a, k, u, rfl, _, ⟨vs, rfl, hl, hr⟩, lk⟩ := cell_of js r q
        exact ⟨a, vs, rfl, lk.rd, hl, hr⟩
      | lst _ => cases h
      | dK _ _ => cases h
      | ins _ _ _ => cases h
  | _ => cases h
theorem key_ok {k : Key} (h : key t = some k) (r : R E m H t v) : v = kV k := by
  cases t with
  | int i => cases h; exact r
  | str x => cases h; exact r
  | _ => cases h
theorem keysOf_ok : ∀ {xs : List T} {ks : List Key} {vs : List V}, keysOf xs = some ks → Rs E m H xs vs → vs = ks.map kV
  | [], _, _, h, r => by cases h; exact r
  | x :: xs, ks, vs, h, r => by
    obtain ⟨v, w, rfl, r1, r2⟩ := r
    unfold keysOf at h
    cases q : key x with
    | none => rw [q] at h; cases h
    | some k =>
      cases q2 : keysOf xs with
      | none => rw [q, q2] at h; cases h
      | some ls =>
        rw [q, q2] at h
        cases h
        rw [key_ok q r1, keysOf_ok q2 r2]
        rfl
theorem keyT_ok {k : List Key} (h : keyT t = some k) (r : R E m H t v) : ∃ b, v = .ref b ∧ H b = some (.tup (k.map kV)) := by
  cases t with
  | tup ys =>
    obtain ⟨a, vs, ev, na, hs, hr⟩ := r
    exact ⟨a, ev, by rw [hs, keysOf_ok h hr]⟩
  | _ => cases h
theorem kget_ok {κ : Type} [DecidableEq κ] : ∀ {ks : List κ} {xs : List T} {vs : List V} (q : κ), ks.length = vs.length → Rs E m H xs vs →
    (∀ t, kget ks xs q = some t → ∃ v, valV (ks.zip vs) q = some v ∧ R E m H t v) ∧ (kget ks xs q = none → valV (ks.zip vs) q = none)
  | [], _, vs, q, hl, r => by
    refine ⟨fun t h => (by simp [kget] at h), fun _ => ?_⟩
    cases vs with
    | nil => rfl
    | cons _ _ => simp at hl
  | k :: ks, [], vs, q, hl, r => by
    cases (show vs = [] from r)
    simp at hl
  | k :: ks, x :: xs, vs, q, hl, r => by
    obtain ⟨v, w, rfl, r1, r2⟩ := r
    have ih := kget_ok (ks := ks) (xs := xs) (vs := w) q (by simpa using hl) r2
    unfold kget
    by_cases e : k = q
    · rw [if_pos e]
      refine ⟨fun t h => ?_, fun h => by cases h⟩
      cases h
      exact ⟨v, by rw [List.zip_cons_cons]; exact valV_pos e, r1⟩
    · rw [if_neg e]
      refine ⟨fun t h => ?_, fun h => ?_⟩
      · obtain ⟨u, h1, h2⟩ := ih.1 t h
        exact ⟨u, by rw [List.zip_cons_cons, valV_neg e]; exact h1, h2⟩
      · rw [List.zip_cons_cons, valV_neg e]; exact ih.2 h
/-- what a dict holds at a key -/
def dget (s : Sto) (d k : T) : Option (Option T) := match asDK s d with
  | some (ks, xs) => match key k with | some q => some (kget ks xs q) | none => none
  | none => match asDT s d with
    | some (ks, xs) => match keyT k with | some q => some (kget ks xs q) | none => none
    | none => none
def DG (E : RE) (m : Ma) (H : Hp) (a : Addr) (kv : V) : Option T → Prop
  | some t => ∃ v, DGet H a kv (some v) ∧ R E m H t v
  | none => DGet H a kv none
theorem dget_ok {d k : T} {dv kv : V} {o : Option T} (h : dget s d k = some o) (js : JS E m s H) (rd : R E m H d dv) (rk : R E m H k kv) : ∃ a, dv = .ref a ∧ DG E m H a kv o := by
  unfold dget at h
  split at h
  · rename_i ks xs hd
    split at h
    · rename_i q hk
      have h := Option.some.inj h
      subst h
      obtain ⟨a, vs, rfl, hr, hl, rs⟩ := asDK_ok hd js rd
      have g := kget_ok q hl rs
      have ek := key_ok hk rk
      refine ⟨a, rfl, ?_⟩
      cases z : kget ks xs q with
      | none => exact .inl ⟨_, q, hr, ek, (g.2 z).symm⟩
      | some t =>
        obtain ⟨v, h1, h2⟩ := g.1 t z
        exact ⟨v, .inl ⟨_, q, hr, ek, h1.symm⟩, h2⟩
    · cases h
  · split at h
    · rename_i ks xs hd
      split at h
      · rename_i q hk
        have h := Option.some.inj h
        subst h
        obtain ⟨a, vs, rfl, hr, hl, rs⟩ := asDT_ok hd js rd
        have g := kget_ok q hl rs
        obtain ⟨b, ek, hb⟩ := keyT_ok hk rk
        refine ⟨a, rfl, ?_⟩
        cases z : kget ks xs q with
        | none => exact .inr ⟨_, q, b, hr, ek, hb, (g.2 z).symm⟩
        | some t =>
          obtain ⟨v, h1, h2⟩ := g.1 t z
          exact ⟨v, .inr ⟨_, q, b, hr, ek, hb, h1.symm⟩, h2⟩
      · cases h
    · cases h

/-! ### in, not in -/
def hIn (p : Bool) : T → T → Sto → Z T := fun a b s => match dget s b a with
  | some o => .ok (.bl (if p then o.isSome else !o.isSome)) s
  | none => match (match asL s b with | some xs => some xs | none => asT b) with
    | some xs => match toPy a, toPys xs with
      | some d, some ds => if (SeqAt.shaped d && SeqAt.shaped (.list ds)) = true then .ok (.bl (if p then ds.any fun z => PyData.eqv z d else !ds.any fun z => PyData.eqv z d)) s else .bad
      | _, _ => .bad
    | none => match a, b with
      | .str x, .str y => .ok (.bl (if p then !(Builtin.Str.occurrences y x 0 y.length 1).isEmpty else !(!(Builtin.Str.occurrences y x 0 y.length 1).isEmpty))) s
      | _, _ => .bad
theorem o_in (hK : X.K = E.K) (hu : X.A.units + 65 < cLine) : OpR X (compareOp .In) (rF2 E W (hIn true)) := by
  intro pins s' σ H x y v u Q I rx ry h
  obtain ⟨a, b, st, m, js, ra, rb, q⟩ := h
  unfold hIn at q
  split at q
  · rename_i o hd
    obtain ⟨p, rfl, g⟩ := dget_ok hd js rb ra
    cases ry
    cases o with
    | none => exact d_in (by omega) I g rx fun s2 I2 => ⟨.bl false, H, I2, rfl, PZ.ok q js rfl⟩
    | some t =>
      obtain ⟨w, g, _⟩ := g
      exact d_in (by omega) I g rx fun s2 I2 => ⟨.bl true, H, I2, rfl, PZ.ok q js rfl⟩
  · split at q
    · rename_i xs hx
      split at q
      · rename_i d ds h1 h2
        split at q
        · rename_i hs
          rw [Bool.and_eq_true] at hs
          have fin := PZ.ok (v := V.bl _) q js rfl
          obtain ⟨as, r1⟩ := Dp.reads I d x v (hK ▸ ra.dp h1) rx
          cases hl : asL st b with
          | some ys =>
            rw [hl] at hx
            cases hx
            obtain ⟨p, vs, rfl, sq, rs⟩ := asL_ok hl js rb
            exact op_inD hu pins s' σ H _ _ v u Q I rx ry ⟨d, ds, hK ▸ ra.dp h1, .lst (hK ▸ sq) (hK ▸ rs.dp h2), hs.1, hs.2, fin⟩
          | none =>
            rw [hl] at hx
            obtain ⟨p, vs, rfl, sq, rs⟩ := asT_ok hx rb
            obtain ⟨bs, r2⟩ := Dp.reads I (.tuple ds) _ u (.tup (hK ▸ sq) (hK ▸ rs.dp h2)) ry
            exact SeqAt.in_tuple_reads r2 r1 (SeqAt.canLay_of_shaped hs.2) (SeqAt.canLay_of_shaped hs.1) (room_in_shaped hs.1 hu) ⟨.bl _, H, I, rfl, fin⟩
        · exact q.elim
      · exact q.elim
    · split at q
      · cases (show x = _ from ra); cases (show y = _ from rb)
        exact op_in_str pins s' σ H _ _ v u Q I rx ry ⟨_, _, rfl, rfl, PZ.ok q js rfl⟩
      · exact q.elim
theorem o_notin (hK : X.K = E.K) (hu : X.A.units + 65 < cLine) : OpR X (compareOp .NotIn) (rF2 E W (hIn false)) := by
  intro pins s' σ H x y v u Q I rx ry h
  obtain ⟨a, b, st, m, js, ra, rb, q⟩ := h
  unfold hIn at q
  split at q
  · rename_i o hd
    obtain ⟨p, rfl, g⟩ := dget_ok hd js rb ra
    cases ry
    cases o with
    | none => exact d_notIn (by omega) I g rx fun s2 I2 => ⟨.bl true, H, I2, rfl, PZ.ok q js rfl⟩
    | some t =>
      obtain ⟨w, g, _⟩ := g
      exact d_notIn (by omega) I g rx fun s2 I2 => ⟨.bl false, H, I2, rfl, PZ.ok q js rfl⟩
  · split at q
    · rename_i xs hx
      split at q
      · rename_i d ds h1 h2
        split at q
        · rename_i hs
          rw [Bool.and_eq_true] at hs
          have fin := PZ.ok (v := V.bl _) q js rfl
          obtain ⟨as, r1⟩ := Dp.reads I d x v (hK ▸ ra.dp h1) rx
          cases hl : asL st b with
          | some ys =>
            rw [hl] at hx
            cases hx
            obtain ⟨p, vs, rfl, sq, rs⟩ := asL_ok hl js rb
            exact op_notInD hu pins s' σ H _ _ v u Q I rx ry ⟨d, ds, hK ▸ ra.dp h1, .lst (hK ▸ sq) (hK ▸ rs.dp h2), hs.1, hs.2, fin⟩
          | none =>
            rw [hl] at hx
            obtain ⟨p, vs, rfl, sq, rs⟩ := asT_ok hx rb
            obtain ⟨bs, r2⟩ := Dp.reads I (.tuple ds) _ u (.tup (hK ▸ sq) (hK ▸ rs.dp h2)) ry
            exact SeqAt.notIn_tuple_reads r2 r1 (SeqAt.canLay_of_shaped hs.2) (SeqAt.canLay_of_shaped hs.1) (room_in_shaped hs.1 hu) ⟨.bl _, H, I, rfl, fin⟩
        · exact q.elim
      · exact q.elim
    · split at q
      · cases (show x = _ from ra); cases (show y = _ from rb)
        exact op_notin_str pins s' σ H _ _ v u Q I rx ry ⟨_, _, rfl, rfl, PZ.ok q js rfl⟩
      · exact q.elim

/-! ### o[i] -/
theorem at_ok {xs : List T} {vs : List V} (r : Rs E m H xs vs) : ∀ {j : Nat} {t : T}, xs[j]? = some t → ∃ v, vs[j]? = some v ∧ R E m H t v := by
  induction xs generalizing vs with
  | nil => intro j t h; simp at h
  | cons x xs ih =>
    obtain ⟨v, w, rfl, r1, r2⟩ := r
    intro j t h
    cases j with
    | zero => simp at h; subst h; exact ⟨v, rfl, r1⟩
    | succ j => simp at h ⊢; exact ih r2 h
theorem atI_ok {xs : List T} {vs : List V} {i : Int} {t : T} (r : Rs E m H xs vs) (h : atI xs i = some t) : ∃ v, atI vs i = some v ∧ R E m H t v := by
  unfold atI at h ⊢
  rw [← r.length]
  cases q : ixN xs.length i with
  | none => rw [q] at h; cases h
  | some j =>
    rw [q] at h
    exact at_ok r h
def hIx : T → T → Sto → Z T := fun a b s => match dget s a b with
  | some (some t) => .ok t s
  | some none => .bad
  | none => match (match asL s a with | some xs => some xs | none => asT a), b with
    | some xs, .int i => match atI xs i with | some t => .ok t s | none => .bad
    | none, .int i => match a with
      | .str z => if z.length ≤ lim then (match atI z.cps.toList i with | some c => .ok (.str ⟨#[c]⟩) s | none => .bad) else .bad
      | _ => .bad
    | _, _ => .bad
theorem _root_.L2.PE.or {e : Expr} {t t' : TE} (h : PE X e t) (h' : PE X e t') : PE X e (fun σ H Q => t σ H Q ∨ t' σ H Q) := ⟨fun pins s σ H Q I q => q.elim (h.run pins s σ H Q I) (h'.run pins s σ H Q I)⟩
theorem x_sub {a b : Expr} {pos : Pos} {fa fb : Fx} (hK : X.K = E.K) (hu : X.A.units + 65 < cLine) (ha : PE X a (tF E W fa)) (hb : PE X b (tF E W fb)) (hs : PlainIx b := by exact fun _ _ => rfl) (hs2 : NoSl b := by exact fun _ _ => rfl) :
    PE X (.Subscript a b pos) (tF E W (v2 hIx fa fb)) := by
  refine ((pe_ix ix_seq ha hb hs).or (pe_dget (by omega) ha hb hs2)).weak fun σ H Q ⟨ρ, st, m, j, hp⟩ => ?_
  have key : ∀ x s1 y s2, fa ρ st = .ok x s1 → fb ρ s1 = .ok y s2 → (∃ o, dget s2 x y = some o) → tDGet (tF E W fa) (tF E W fb) σ H Q := by
    intro x s1 y s2 e1 e2 ⟨o, hd⟩
    refine ⟨ρ, st, m, j, PZ.imp (fun v H1 z => ?_) (PZ.then (rel := R E) hp)⟩
    obtain ⟨x', s1', m1, e1', x1, k1, js1, r1, q1⟩ := z
    rw [e1] at e1'
    cases e1'
    refine ⟨ρ, s1, m1, j.step x1 k1 js1, PZ.imp (fun w H2 z => ?_) (PZ.then (rel := R E) q1)⟩
    obtain ⟨y', s2', m2, e2', x2, k2, js2, r2, q2⟩ := z
    rw [e2] at e2'
    cases e2'
    obtain ⟨p, rfl, g⟩ := dget_ok hd js2 (r1.mono x2 k2) r2
    unfold hIx at q2
    rw [hd] at q2
    cases o with
    | none => exact q2.elim
    | some t =>
      obtain ⟨v', g, rt⟩ := g
      exact ⟨p, v', rfl, g, PZ.ok q2 js2 rt⟩
  by_cases hc : ∃ x s1 y s2, fa ρ st = .ok x s1 ∧ fb ρ s1 = .ok y s2 ∧ ∃ o, dget s2 x y = some o
  · obtain ⟨x, s1, y, s2, e1, e2, h⟩ := hc
    exact .inr (key x s1 y s2 e1 e2 h)
  · refine .inl ⟨ρ, st, m, j, PZ.imp (fun v H1 z => ?_) (PZ.then (rel := R E) hp)⟩
    obtain ⟨x, s1, m1, e1, x1, k1, js1, r1, q1⟩ := z
    refine ⟨ρ, s1, m1, j.step x1 k1 js1, PZ.imp (fun w H2 z => ?_) (PZ.then (rel := R E) q1)⟩
    obtain ⟨y, s2, m2, e2, x2, k2, js2, r2, q2⟩ := z
    have hn : dget s2 x y = none := by
      cases q : dget s2 x y with
      | none => rfl
      | some o => exact absurd ⟨x, s1, y, s2, e1, e2, o, q⟩ hc
    have r1' := r1.mono x2 k2
    unfold hIx at q2
    rw [hn] at q2
    dsimp only at q2
    cases hl : asL s2 x with
    | some xs =>
      rw [hl] at q2
      cases y with
      | int i =>
        dsimp only at q2
        cases ht : atI xs i with
        | none => rw [ht] at q2; exact q2.elim
        | some t =>
          rw [ht] at q2
          cases (show w = _ from r2)
          obtain ⟨p, vs, rfl, sq, rs⟩ := asL_ok hl js2 r1'
          obtain ⟨v', h1, h2⟩ := atI_ok rs ht
          exact .inl ⟨p, vs, i, v', rfl, rfl, hK ▸ sq, h1, PZ.ok q2 js2 h2⟩
      | _ => exact q2.elim
    | none =>
      rw [hl] at q2
      cases y with
      | int i =>
        dsimp only at q2
        cases hT : asT x with
        | some xs =>
          rw [hT] at q2
          dsimp only at q2
          cases ht : atI xs i with
          | none => rw [ht] at q2; exact q2.elim
          | some t =>
            rw [ht] at q2
            cases (show w = _ from r2)
            obtain ⟨p, vs, rfl, sq, rs⟩ := asT_ok hT r1'
            obtain ⟨v', h1, h2⟩ := atI_ok rs ht
            exact .inr (.inl ⟨p, vs, i, v', rfl, rfl, hK ▸ sq, h1, PZ.ok q2 js2 h2⟩)
        | none =>
          rw [hT] at q2
          cases x with
          | str z =>
            dsimp only at q2
            by_cases hz : z.length ≤ lim
            · rw [if_pos hz] at q2
              cases hc2 : atI z.cps.toList i with
              | none => rw [hc2] at q2; exact q2.elim
              | some c =>
                rw [hc2] at q2
                cases (show w = _ from r2)
                cases (show v = _ from r1)
                exact .inr (.inr ⟨z, i, c, rfl, rfl, lim_line hz, hc2, PZ.ok q2 js2 rfl⟩)
            · rw [if_neg hz] at q2; exact q2.elim
          | _ => exact q2.elim
      | _ =>
        cases hT : asT x with
        | none => rw [hT] at q2; exact q2.elim
        | some xs => rw [hT] at q2; exact q2.elim
end
end Sh

set_option Elab.async false
set_option linter.all false
set_option maxRecDepth 100000
set_option maxHeartbeats 4000000
namespace Sh
open PySem PySem.Spec PyProof.Rows L2
/-! ### statements -/
def sSeq (f g : Fs) : Fs := fun ρ st => (f ρ st).then fun fl s => match fl with | .nx ρ' => g ρ' s | o => .ok o s
def sNext : Fs := fun ρ st => .ok (.nx ρ) st
def sRet (f : Fx) : Fs := fun ρ st => (f ρ st).then fun t s => .ok (.rt t) s
def sRetN : Fs := fun _ st => .ok (.rt .non) st
def sExpr (f : Fx) : Fs := fun ρ st => (f ρ st).then fun _ s => .ok (.nx ρ) s
def sIf (c : Fb) (f g : Fs) : Fs := fun ρ st => (c ρ st).then fun b s => if b = true then f ρ s else g ρ s
def sBad : Fs := fun _ _ => .bad
/-- a target: what it makes of the slots -/
abbrev Tg := T → Lo → Option Lo
def gN (i : Nat) : Tg := fun t ρ => some (ρ.set i (some t))
def gEach : List Tg → List T → Lo → Option Lo
  | [], [], ρ => some ρ
  | g :: gs, t :: ts, ρ => match g t ρ with | some ρ' => gEach gs ts ρ' | none => none
  | _, _, _ => none
def gT (gs : List Tg) : Tg := fun t ρ => match asT t with | some ts => gEach gs ts ρ | none => none
def sAsg (f : Fx) (g : Tg) : Fs := fun ρ st => (f ρ st).then fun t s => match g t ρ with | some ρ' => .ok (.nx ρ') s | none => .bad
def loop (g : Tg) (b : Fs) : List T → Lo → Sto → Z Fl
  | [], ρ, s => .ok (.nx ρ) s
  | x :: xs, ρ, s => match g x ρ with
    | none => .bad
    | some ρ' => (b ρ' s).then fun fl s => match fl with
      | .nx ρ2 => loop g b xs ρ2 s
      | .ct ρ2 => loop g b xs ρ2 s
      | .bk ρ2 => .ok (.nx ρ2) s
      | .rt t => .ok (.rt t) s
def sFor (fi : Fa) (g : Tg) (b : Fs) : Fs := fun ρ st => (fi ρ st).then fun xs s => loop g b xs ρ s
/-- no exception is known to leave -/
def noX {α : Type} (z : Z α) : Z α := match z with | .exc _ _ _ => .bad | z => z
def wipeL (ρ : Lo) : List Nat → Lo
  | [] => ρ
  | v :: vs => (wipeL ρ vs).set v none
def cLoop (g : Tg) (c : Fb) (e : Fx) (ρ : Lo) : List T → Sto → Z (List T)
  | [], s => .ok [] s
  | x :: xs, s => match g x ρ with
    | none => .bad
    | some ρ' => (noX (c ρ' s)).then fun b s => if b = true then (noX (e ρ' s)).then fun y s => (cLoop g c e ρ xs s).then fun ys s => .ok (y :: ys) s else cLoop g c e ρ xs s
def vLc (vs : List Nat) (fi : Fa) (g : Tg) (c : Fb) (e : Fx) : Fx := fun ρ st => (fi ρ st).then fun xs s => if xs.length ≤ lim then (cLoop g c e (wipeL ρ vs) xs s).then fun ys s => .ok (.lst ys) s else .bad
def bYes : Fb := fun _ s => .ok true s

section
variable {E : RE} {W : XK} {m m' : Ma} {H H' : Hp} {st s s' : Sto} {X : Cx} {t : T} {v : V} {xs : List T} {f g : Fs} {stm : Stmt} {rest : List Stmt} {e : Expr} {pos : Pos} {fe : Fx}
/-- any wish about exceptions -/
theorem s_nil : PSs X [] (tS E W sNext) := pss_nil.weak fun D σ H ⟨ρ, st, m, j, hp⟩ => PZ.ok (v := Fv.nx σ) hp j.sto j.lc
theorem s_cons (h1 : PS X stm (tS E W f)) (h2 : PSs X rest (tS E W g)) : PSs X (stm :: rest) (tS E W (sSeq f g)) := (pss_cons h1 h2).weak fun D σ H ⟨ρ, st, m, j, hp⟩ => by
  refine ⟨ρ, st, m, j, PZ.imp (fun v H1 z => ?_) (PZ.then (rel := rFl E) hp)⟩
  obtain ⟨x, s1, m1, _, e1, k1, js1, r1, q1⟩ := z
  cases x with
  | nx ρ' => cases v with
    | nx σ' => exact ⟨ρ', s1, m1, Lc.j r1 js1, q1⟩
    | _ => exact r1.elim
  | rt t => cases v with
    | rt u =>
      have z : toD D (Fv.rt u) H1 := PZ.ok q1 js1 r1
      exact z
    | _ => exact r1.elim
  | bk ρ' => cases v with
    | bk σ' =>
      have z : toD D (Fv.bk σ') H1 := PZ.ok q1 js1 r1
      exact z
    | _ => exact r1.elim
  | ct ρ' => cases v with
    | ct σ' =>
      have z : toD D (Fv.ct σ') H1 := PZ.ok q1 js1 r1
      exact z
    | _ => exact r1.elim
theorem s_one (h1 : PS X stm (tS E W f)) : PSs X [stm] (tS E W f) := pss_one h1
theorem s_pass : PS X (.Pass pos) (tS E W sNext) := ps_pass.weak fun D σ H ⟨ρ, st, m, j, hp⟩ => PZ.ok (v := Fv.nx σ) hp j.sto j.lc
theorem s_never : PS X stm (tS E W sBad) := ⟨fun _ _ _ _ _ _ ⟨_, _, _, _, hp⟩ => hp.elim⟩
theorem s_doc {x k pos'} : PS X (.Expr (.Constant (.str x) k pos) pos') (tS E W sNext) := ps_doc.weak fun D σ H ⟨ρ, st, m, j, hp⟩ => PZ.ok (v := Fv.nx σ) hp j.sto j.lc
theorem s_ret (he : PE X e (tF E W fe)) : PS X (.Return (some e) pos) (tS E W (sRet fe)) := (ps_ret he).weak fun D σ H ⟨ρ, st, m, j, hp⟩ => by
  refine ⟨ρ, st, m, j, PZ.imp (fun v H1 z => ?_) (PZ.then (rel := R E) hp)⟩
  obtain ⟨x, s1, m1, _, e1, k1, js1, r1, q1⟩ := z
  exact PZ.ok (v := Fv.rt v) q1 js1 r1
theorem s_retN : PS X (.Return none pos) (tS E W sRetN) := ps_retN.weak fun D σ H ⟨ρ, st, m, j, hp⟩ => PZ.ok (v := Fv.rt .non) hp j.sto (rfl : R E m H .non .non)
theorem s_expr (he : PE X e (tF E W fe)) (hs : swapsWith e none pos.line X.env = pure false := by rfl) : PS X (.Expr e pos) (tS E W (sExpr fe)) := (ps_expr he hs).weak fun D σ H ⟨ρ, st, m, j, hp⟩ => by
  refine ⟨ρ, st, m, j, PZ.imp (fun v H1 z => ?_) (PZ.then (rel := R E) hp)⟩
  obtain ⟨x, s1, m1, _, e1, k1, js1, r1, q1⟩ := z
  exact PZ.ok (v := Fv.nx σ) q1 js1 (j.lc.mono e1 k1)
theorem s_if {c : Expr} {a b : List Stmt} {fc : Fb} (hc : PT X c (tFb E W fc)) (ha : PSs X a (tS E W f)) (hb : PSs X b (tS E W g)) : PS X (.If c a b pos) (tS E W (sIf fc f g)) := (ps_if hc ha hb).weak fun D σ H ⟨ρ, st, m, j, hp⟩ => by
  refine ⟨ρ, st, m, j, PZ.imp (fun v H1 z => ?_) (PZ.then (rel := rB) hp)⟩
  obtain ⟨x, s1, m1, _, e1, k1, js1, r1, q1⟩ := z
  subst r1
  cases x with
  | true => exact ⟨ρ, s1, m1, j.step e1 k1 js1, q1⟩
  | false => exact ⟨ρ, s1, m1, j.step e1 k1 js1, q1⟩

/-! ### targets -/
/-- only the slots sl have changed -/
def Wp (sl : List Nat) (σ σ' : L2.St) : Prop := ∀ vs : List Nat, (∀ i ∈ sl, i ∈ vs) → wipe σ' vs = wipe σ vs
theorem wipe_get (σ : L2.St) (j : Nat) : ∀ vs : List Nat, (wipe σ vs)[j]? = if j ∈ vs ∧ j < σ.length then some none else σ[j]?
  | [] => by simp [wipe]
  | v :: vs => by
    unfold wipe
    by_cases h : v = j
    · subst h
      by_cases hl : v < σ.length
      · rw [List.getElem?_set_self (by rw [wipe_length]; exact hl), if_pos ⟨by simp, hl⟩]
      · rw [if_neg (fun z => hl z.2), List.getElem?_eq_none (by rw [List.length_set, wipe_length]; omega), List.getElem?_eq_none (by omega)]
    · rw [List.getElem?_set_ne h, wipe_get σ j vs]
      by_cases hj : j ∈ vs ∧ j < σ.length
      · rw [if_pos hj, if_pos ⟨List.mem_cons_of_mem _ hj.1, hj.2⟩]
      · rw [if_neg hj, if_neg (fun z => hj ⟨(List.mem_cons.mp z.1).resolve_left (fun q => h q.symm), z.2⟩)]
theorem Wp.set (σ : L2.St) (i : Nat) (o : Option V) : Wp [i] σ (σ.set i o) := fun vs h => by
  apply List.ext_getElem?
  intro j
  rw [wipe_get, wipe_get, List.length_set]
  by_cases hj : j ∈ vs ∧ j < σ.length
  · rw [if_pos hj, if_pos hj]
  · rw [if_neg hj, if_neg hj]
    by_cases e : i = j
    · subst e
      have hi := h i (by simp)
      have hl : ¬ i < σ.length := fun q => hj ⟨hi, q⟩
      rw [List.getElem?_eq_none (by rw [List.length_set]; omega), List.getElem?_eq_none (by omega)]
    · rw [List.getElem?_set_ne e]
theorem Wp.trans {a b : List Nat} {σ σ1 σ2 : L2.St} (h1 : Wp a σ σ1) (h2 : Wp b σ1 σ2) : Wp (a ++ b) σ σ2 := fun vs h =>
  (h2 vs fun i hi => h i (List.mem_append_right _ hi)).trans (h1 vs fun i hi => h i (List.mem_append_left _ hi))
def tG (E : RE) (G : Tg) (sl : List Nat) : TG := fun v σ H Q => ∃ t ρ ρ' m, R E m H t v ∧ Lc E m H ρ σ ∧ G t ρ = some ρ' ∧ ∀ σ', Wp sl σ σ' → Lc E m H ρ' σ' → Q σ' H
def tGs (E : RE) (G : List T → Lo → Option Lo) (sl : List Nat) : TGs := fun vs σ H Q => ∃ ts ρ ρ' m, Rs E m H ts vs ∧ Lc E m H ρ σ ∧ G ts ρ = some ρ' ∧ ∀ σ', Wp sl σ σ' → Lc E m H ρ' σ' → Q σ' H
theorem _root_.L2.PG.weak {e : Expr} {t t' : TG} (h : PG X e t) (w : ∀ v σ H Q, t' v σ H Q → t v σ H Q) : PG X e t' := ⟨fun pins s σ H v u Q I r q => h.run pins s σ H v u Q I r (w v σ H Q q)⟩
theorem _root_.L2.PGs.weak {e : List Expr} {t t' : TGs} (h : PGs X e t) (w : ∀ v σ H Q, t' v σ H Q → t v σ H Q) : PGs X e t' := ⟨fun pins s σ H v u Q I r q => h.run pins s σ H v u Q I r (w v σ H Q q)⟩
theorem g_name {i : Nat} {x : Str} (hN : X.N.Nodup) (hi : X.N[i]? = some x := by rfl) (hx : Loc X.env.scope x := by first | exact Or.inl rfl | exact Or.inr rfl) (hf : X.fn x = true ∨ X.env.scope.names.lookup x = some .local := by first | exact .inl rfl | exact .inr rfl) : PG X (.Name x pos) (tG E (gN i) [i]) :=
  (pg_name hN hi hx hf).weak fun v σ H Q ⟨t, ρ, ρ', m, r, l, hg, q⟩ => by
    cases hg
    exact q _ (Wp.set σ i _) (l.set i r)
theorem gs_nil : PGs X [] (tGs E (gEach []) []) := pgs_nil.weak fun vs σ H Q ⟨ts, ρ, ρ', m, r, l, hg, q⟩ => by
  cases ts with
  | nil => cases hg; exact ⟨r, q σ (fun _ _ => rfl) l⟩
  | cons _ _ => cases hg
theorem gs_cons {es : List Expr} {G : Tg} {Gs : List Tg} {sl sls : List Nat} (h1 : PG X e (tG E G sl)) (h2 : PGs X es (tGs E (gEach Gs) sls)) (hs : (assignEach (e :: es) X.env).map (·.2) = assign e X.env :: (assignEach es X.env).map (·.2) := by rfl) : PGs X (e :: es) (tGs E (gEach (G :: Gs)) (sl ++ sls)) :=
  (pgs_cons h1 h2 hs).weak fun vs σ H Q ⟨ts, ρ, ρ', m, r, l, hg, q⟩ => by
    cases ts with
    | nil => cases hg
    | cons t ts =>
      obtain ⟨v, vr, rfl, r1, r2⟩ := r
      unfold gEach at hg
      cases hz : G t ρ with
      | none => rw [hz] at hg; cases hg
      | some ρ1 =>
        rw [hz] at hg
        exact ⟨v, vr, rfl, t, ρ, ρ1, m, r1, l, hz, fun σ1 w1 l1 => ⟨ts, ρ1, ρ', m, r2, l1, hg, fun σ2 w2 l2 => q σ2 (w1.trans w2) l2⟩⟩
theorem gEach_len : ∀ {gs : List Tg} {ts : List T} {ρ ρ' : Lo}, gEach gs ts ρ = some ρ' → ts.length = gs.length
  | [], [], _, _, _ => rfl
  | [], _ :: _, _, _, h => by cases h
  | _ :: _, [], _, _, h => by cases h
  | g :: gs, t :: ts, ρ, ρ', h => by
    unfold gEach at h
    cases hz : g t ρ with
    | none => rw [hz] at h; cases h
    | some ρ1 =>
      rw [hz] at h
      rw [List.length_cons, List.length_cons, gEach_len h]
theorem g_tup {es : List Expr} {k : Nat} {Gs : List Tg} {sl : List Nat} (hK : X.K = E.K) (hc : X.calm = true) (h : PGs X es (tGs E (gEach Gs) sl)) (hn : (assignEach es X.env).length = Gs.length := by rfl) (hst : (assignEach es X.env).findIdx? (·.1) = none := by rfl) : PG X (.Tuple es k pos) (tG E (gT Gs) sl) :=
  (pg_tup hc h hn hst).weak fun v σ H Q ⟨t, ρ, ρ', m, r, l, hg, q⟩ => by
    unfold gT at hg
    cases ht : asT t with
    | none => rw [ht] at hg; cases hg
    | some ts =>
      rw [ht] at hg
      obtain ⟨a, vs, rfl, sq, rs⟩ := asT_ok ht r
      exact ⟨a, vs, rfl, hK ▸ sq, by rw [← rs.length, gEach_len hg], ts, ρ, ρ', m, rs, l, hg, q⟩
/-- target = e -/
theorem s_asg {tg : Expr} {G : Tg} {sl : List Nat} (he : PE X e (tF E W fe)) (hg : PG X tg (tG E G sl)) (hs : swapsWithSole [tg] e pos.line X.env = pure false := by rfl) (hw : swappedStores [tg] e X.env = pure none := by rfl)
    (h1 : (assignEach [tg] X.env).map (·.2) = [assign tg X.env] := by rfl) : PS X (.Assign [tg] e pos) (tS E W (sAsg fe G)) := (ps_asg he hg hs hw h1).weak fun D σ H ⟨ρ, st, m, j, hp⟩ => by
  refine ⟨ρ, st, m, j, PZ.imp (fun v H1 z => ?_) (PZ.then (rel := R E) hp)⟩
  obtain ⟨x, s1, m1, _, e1, k1, js1, r1, q1⟩ := z
  cases hz : G x ρ with
  | none => rw [hz] at q1; exact q1.elim
  | some ρ' =>
    rw [hz] at q1
    exact ⟨x, ρ, ρ', m1, r1, j.lc.mono e1 k1, hz, fun σ' _ l' => PZ.ok (v := Fv.nx σ') q1 js1 l'⟩
/-- name = e -/
theorem s_set {i : Nat} {x : Str} {pos' : Pos} (hN : X.N.Nodup) (he : PE X e (tF E W fe)) (hi : X.N[i]? = some x := by rfl) (hx : Loc X.env.scope x := by first | exact Or.inl rfl | exact Or.inr rfl) (hs : swapsWith e (some (.Name x pos')) pos.line X.env = pure false := by rfl)
    (hf : X.fn x = true ∨ X.env.scope.names.lookup x = some .local := by first | exact .inl rfl | exact .inr rfl) : PS X (.Assign [.Name x pos'] e pos) (tS E W (sAsg fe (gN i))) := (ps_set hN hi hx he hs hf).weak fun D σ H ⟨ρ, st, m, j, hp⟩ => by
  refine ⟨ρ, st, m, j, PZ.imp (fun v H1 z => ?_) (PZ.then (rel := R E) hp)⟩
  obtain ⟨x, s1, m1, _, e1, k1, js1, r1, q1⟩ := z
  exact PZ.ok (v := Fv.nx _) q1 js1 ((j.lc.mono e1 k1).set i r1)

/-! ### what is walked -/
/-- J walks the trees ts -/
def Wk (E : RE) (m : Ma) (H : Hp) (J : It) (ts : List T) : Prop := ∃ (G : Hp → Prop) (Y : Nat → Hp → V → Hp → Prop), Walk J ts.length G Y ∧ (∀ m' H', Ext m m' H → Keep m H H' → G H') ∧
  ∀ l i t x m' s' H' H'', Exs E H l → ts[i]? = some t → Ext m m' H → Keep m H H' → JS (E.x l) m' s' H' → Y i H' x H'' → Keep m' H' H'' ∧ JS (E.x l) m' s' H'' ∧ R (E.x l) m' H'' t x
def PZi (E : RE) (W : XK) (m : Ma) (H : Hp) (K : It → Hp → Prop) : Z (List T) → Prop := PZ E W (fun m' H' ts J => Wk E m' H' J ts) m H K
def tI (E : RE) (W : XK) (fi : Fa) : TI := fun σ H K => ∃ ρ st m, J E m ρ st σ H ∧ PZi E W m H K (fi ρ st)
theorem _root_.L2.PI.weak {tg e : Expr} {t t' : TI} (h : PI X tg e t) (w : ∀ σ H Q, t' σ H Q → t σ H Q) : PI X tg e t' := ⟨fun pins s σ H Q I q => h.run pins s σ H Q I (w σ H Q q)⟩
theorem Wk.yat {J : It} {G : Hp → Prop} {vs : List V} {ts : List T} (hw : Walk J ts.length G (YAt vs)) (hG : ∀ m' H', Ext m m' H → Keep m H H' → G H') (r : Rs E m H ts vs) : Wk E m H J ts :=
  ⟨G, YAt vs, hw, hG, fun l i t x m' s' H' H'' hx hi e k js ⟨eH, ex⟩ => by
    subst eH
    obtain ⟨v, h1, h2⟩ := at_ok r hi
    rw [h1] at ex
    cases ex
    exact ⟨.refl, js, h2.monoX hx e k⟩⟩
/-- a list, a tuple, walked -/
def iSeq (f : Fx) : Fa := fun ρ st => (f ρ st).then fun t s => match t with
  | .lst xs => .ok xs s
  | .scr xs => .ok xs s
  | _ => .bad
theorem SqL.keep {K : PySem.W.Frag} {a : Addr} {vs : List V} (na : a ∉ m.ad) (k : Keep m H H') (h : SqL K H a vs) : SqL K H' a vs := h.elim (fun z => .inl (k.rd na z)) .inr
theorem i_list {tg : Expr} (hK : X.K = E.K) (he : PE X e (tF E W fe)) : PI X tg e (tI E W (iSeq fe)) := (pi_list he).weak fun σ H Q ⟨ρ, st, m, j, hp⟩ => by
  refine ⟨ρ, st, m, j, PZ.imp (fun v H1 z => ?_) (PZ.then (rel := R E) hp)⟩
  obtain ⟨x, s1, m1, _, e1, k1, js1, r1, q1⟩ := z
  cases x with
  | lst ts =>
    obtain ⟨a, vs, rfl, na, hs, hr⟩ := r1
    exact ⟨a, rfl, ⟨vs, .of hs⟩, PZ.ok q1 js1 (Wk.yat (G := fun H => SqL X.K H a vs) (by rw [hr.length]; exact walk_list) (fun m' H' _ k => SqL.of (k a _ (nf na.1) hs)) hr)⟩
  | scr ts =>
    obtain ⟨a, vs, rfl, hs, hr⟩ := r1
    refine ⟨a, rfl, ⟨vs, hK ▸ hs.elim (fun z => .inl z.2) .inr⟩, PZ.ok q1 js1 (Wk.yat (G := fun H => SqL X.K H a vs) (by rw [hr.length]; exact walk_list) (fun m' H' _ k => ?_) hr)⟩
    exact hK ▸ hs.elim (fun z => .inl (k.rd z.1.1 z.2)) .inr
  | _ => exact q1.elim
def iTupF (f : Fx) : Fa := fun ρ st => (f ρ st).then fun t s => match asT t with | some xs => .ok xs s | none => .bad
theorem i_tup {tg : Expr} (hK : X.K = E.K) (he : PE X e (tF E W fe)) : PI X tg e (tI E W (iTupF fe)) := (pi_tup he).weak fun σ H Q ⟨ρ, st, m, j, hp⟩ => by
  refine ⟨ρ, st, m, j, PZ.imp (fun v H1 z => ?_) (PZ.then (rel := R E) hp)⟩
  obtain ⟨x, s1, m1, _, e1, k1, js1, r1, q1⟩ := z
  cases x with
  | tup ts =>
    obtain ⟨a, vs, rfl, na, hs, hr⟩ := r1
    exact ⟨a, rfl, ⟨vs, .of hs⟩, PZ.ok q1 js1 (Wk.yat (G := fun H => SqT X.K H a vs) (by rw [hr.length]; exact walk_tup) (fun m' H' _ k => SqT.of (k a _ (nf na.1) hs)) hr)⟩
  | tupK ts =>
    obtain ⟨a, vs, rfl, hs, hr⟩ := r1
    exact ⟨a, rfl, ⟨vs, hK ▸ .inr hs⟩, PZ.ok q1 js1 (Wk.yat (G := fun H => SqT X.K H a vs) (by rw [hr.length]; exact walk_tup) (fun m' H' _ k => hK ▸ .inr hs) hr)⟩
  | _ => exact q1.elim
/-- lo, lo + 1, .. below lo + n -/
def rngT (lo : Int) : Nat → List T
  | 0 => []
  | n + 1 => .int lo :: rngT (lo + 1) n
theorem rngT_len : ∀ (n : Nat) (lo : Int), (rngT lo n).length = n
  | 0, _ => rfl
  | n + 1, lo => by unfold rngT; rw [List.length_cons, rngT_len n]
theorem rngT_at : ∀ (n : Nat) (lo : Int) (i : Nat) (t : T), (rngT lo n)[i]? = some t → t = .int (lo + i)
  | 0, _, _, _, h => by simp [rngT] at h
  | n + 1, lo, 0, t, h => by simp [rngT] at h; simp [h]
  | n + 1, lo, i + 1, t, h => by
    simp [rngT] at h
    rw [rngT_at n (lo + 1) i t h]
    congr 1
    omega
theorem Wk.rng {lo : Int} {n : Nat} : Wk E m H (Itr lo n) (rngT lo n) :=
  ⟨fun _ => True, YFn fun i => .int (lo + i), by rw [rngT_len]; exact walk_range, fun _ _ _ _ => trivial, fun l i t x m' s' H' H'' _ hi _ _ js ⟨eH, ex⟩ => by
    subst eH ex
    rw [rngT_at n lo i t hi]
    exact ⟨.refl, js, rfl⟩⟩
def rgB : Int := 1000000
def rgOk (i : Int) : Bool := decide (-rgB ≤ i) && decide (i ≤ rgB)
theorem rgOk_b {i : Int} (h : rgOk i = true) : -(2 ^ 62) ≤ i ∧ i < 2 ^ 62 := by
  unfold rgOk rgB at h
  rw [Bool.and_eq_true] at h
  have h1 := of_decide_eq_true h.1
  have h2 := of_decide_eq_true h.2
  constructor <;> omega
def asI1 : List T → Option Int
  | [.int j] => some j
  | _ => none
def asI2 : List T → Option (Int × Int)
  | [.int i, .int j] => some (i, j)
  | _ => none
theorem asI1_ok {ts : List T} {vs : List V} {j : Int} (h : asI1 ts = some j) (r : Rs E m H ts vs) : vs = [.int j] := by
  unfold asI1 at h
  split at h
  · cases h
    obtain ⟨u, w, rfl, r2, r3⟩ := r
    cases (show u = _ from r2)
    cases (show w = [] from r3)
    rfl
  · cases h
theorem asI2_ok {ts : List T} {vs : List V} {i j : Int} (h : asI2 ts = some (i, j)) (r : Rs E m H ts vs) : vs = [.int i, .int j] := by
  unfold asI2 at h
  split at h
  · cases h
    obtain ⟨u, w, rfl, r2, u2, w2, rfl, r3, r4⟩ := r
    cases (show u = _ from r2)
    cases (show u2 = _ from r3)
    cases (show w2 = [] from r4)
    rfl
  · cases h
def iRange1 (fa : Fa) : Fa := fun ρ st => (fa ρ st).then fun vs s => match asI1 vs with
  | some j => if rgOk j = true then .ok (rngT 0 j.toNat) s else .bad
  | none => .bad
def iRange2 (fa : Fa) : Fa := fun ρ st => (fa ρ st).then fun vs s => match asI2 vs with
  | some (i, j) => if (rgOk i && rgOk j) = true then .ok (rngT i (j - i).toNat) s else .bad
  | none => .bad
theorem i_range1 {tg a : Expr} {p : Pos} {fa : Fa} (hm : X.mg "range" = none) (ha : PA X [a] (tFs E W fa)) (hg : Gl X "range" := by rfl) (hs : starEach [a] X.env = [(false, eval a X.env)] := by rfl) : PI X tg (.Call (.Name "range" p) [a] [] pos) (tI E W (iRange1 fa)) := (pi_range1 hg hm ha hs).weak fun σ H Q ⟨ρ, st, m, j, hp⟩ => by
  refine ⟨ρ, st, m, j, PZ.imp (fun v H1 z => ?_) (PZ.then (rel := Rs E) hp)⟩
  obtain ⟨x, s1, m1, _, e1, k1, js1, r1, q1⟩ := z
  cases hx : asI1 x with
  | none => rw [hx] at q1; exact q1.elim
  | some n =>
    rw [hx] at q1
    dsimp only at q1
    cases asI1_ok hx r1
    by_cases hn : rgOk n = true
    · rw [if_pos hn] at q1
      exact ⟨n, rfl, (rgOk_b hn).1, (rgOk_b hn).2, PZ.ok q1 js1 Wk.rng⟩
    · rw [if_neg hn] at q1; exact q1.elim
theorem i_range2 {tg a b : Expr} {p : Pos} {fa : Fa} (hm : X.mg "range" = none) (ha : PA X [a, b] (tFs E W fa)) (hg : Gl X "range" := by rfl) (hs : starEach [a, b] X.env = [(false, eval a X.env), (false, eval b X.env)] := by rfl) (hs2 : starEach [b] X.env = [(false, eval b X.env)] := by rfl) : PI X tg (.Call (.Name "range" p) [a, b] [] pos) (tI E W (iRange2 fa)) := (pi_range2 hg hm ha hs hs2).weak fun σ H Q ⟨ρ, st, m, j, hp⟩ => by
  refine ⟨ρ, st, m, j, PZ.imp (fun v H1 z => ?_) (PZ.then (rel := Rs E) hp)⟩
  obtain ⟨x, s1, m1, _, e1, k1, js1, r1, q1⟩ := z
  cases hx : asI2 x with
  | none => rw [hx] at q1; exact q1.elim
  | some p =>
    obtain ⟨i, n⟩ := p
    rw [hx] at q1
    dsimp only at q1
    cases asI2_ok hx r1
    by_cases hn : (rgOk i && rgOk n) = true
    · rw [if_pos hn] at q1
      rw [Bool.and_eq_true] at hn
      exact ⟨i, n, rfl, ⟨(rgOk_b hn.1).1, (rgOk_b hn.1).2, (rgOk_b hn.2).1, (rgOk_b hn.2).2⟩, PZ.ok q1 js1 Wk.rng⟩
    · rw [if_neg hn] at q1; exact q1.elim

/-! ### for -/
theorem for_core {G : Tg} {sl : List Nat} {b : Fs} {D : Ends} {ts : List T} {Jt : It} {ρ : Lo} {σ : L2.St} (hwk : Wk E m H Jt ts) (j : J E m ρ s σ H) (q1 : PZ E W (rFl E) m H (toD D) (loop G b ts ρ s)) :
    ∃ W' : Nat → Nat → L2.St → Hp → Prop, (∃ mm, W' 0 mm σ H) ∧ ∀ i mm σ H, W' i mm σ H → (Jt.stop i H ∧ D.nx σ H) ∨ (Jt.go i H ∧ ∃ N : L2.St → Hp → Prop, (∀ σ' H', N σ' H' → ∃ m', m' < mm ∧ W' (i + 1) m' σ' H') ∧ ∀ x H', Jt.yld i H x H' → tG E G sl x σ H' fun σ2 H2 => tS E W b { D with nx := N, ct := N, bk := D.nx } σ2 H2) := by
  obtain ⟨GG, Y, hw, hG, hY⟩ := hwk
  refine for_it hw (fun i σ' H' => ∃ ρ' s' m', Ext m m' H ∧ Keep m H H' ∧ J E m' ρ' s' σ' H' ∧ PZ E W (rFl E) m' H' (toD D) (loop G b (ts.drop i) ρ' s')) ⟨ρ, s, m, .refl, .refl, j, q1⟩ (fun i σ' H' _ ⟨_, _, m', e, k, _, _⟩ => hG m' H' e k) ?_ ?_
  · rintro i x σ' H' H'' hi ⟨ρ', s', m', e2, k2, j2, q2⟩ y
    have hi' : ts[i]? = some ts[i] := List.getElem?_eq_getElem hi
    obtain ⟨k3, js3, r3⟩ := hY E.ex i _ x m' s' H' H'' .same hi' e2 k2 j2.sto y
    rw [List.drop_eq_getElem_cons hi] at q2
    unfold loop at q2
    have j3 : J E m' ρ' s' σ' H'' := j2.step .refl k3 js3
    have q3 := q2.up .refl k3
    cases hz : G ts[i] ρ' with
    | none => rw [hz] at q3; exact q3.elim
    | some ρ2 =>
      rw [hz] at q3
      refine ⟨ts[i], ρ', ρ2, m', r3, j3.lc, hz, fun σ2 _ l2 => ⟨ρ2, s', m', l2.j js3, PZ.imp (fun v H4 z => ?_) (PZ.then (rel := rFl E) q3)⟩⟩
      obtain ⟨fl, s4, m4, _, e4, k4, js4, r4, q4⟩ := z
      have ee : Ext m m4 H := e2.trans (k2.trans e2 k3) (by exact e4)
      have kk : Keep m H H4 := (k2.trans e2 k3).trans e2 k4
      cases fl with
      | nx ρ5 => cases v with
        | nx σ5 => exact ⟨ρ5, s4, m4, ee, kk, Lc.j r4 js4, q4⟩
        | _ => exact r4.elim
      | ct ρ5 => cases v with
        | ct σ5 => exact ⟨ρ5, s4, m4, ee, kk, Lc.j r4 js4, q4⟩
        | _ => exact r4.elim
      | bk ρ5 => cases v with
        | bk σ5 =>
          have z : toD D (Fv.nx σ5) H4 := PZ.ok q4 js4 r4
          exact z
        | _ => exact r4.elim
      | rt t => cases v with
        | rt u =>
          have z : toD D (Fv.rt u) H4 := PZ.ok q4 js4 r4
          exact z
        | _ => exact r4.elim
  · rintro σ' H' ⟨ρ', s', m', e2, k2, j2, q2⟩
    rw [List.drop_length] at q2
    exact PZ.ok (v := Fv.nx σ') q2 j2.sto j2.lc
theorem t_for {G : Tg} {sl : List Nat} {b : Fs} {fi : Fa} {D : Ends} {σ : L2.St} (q : tS E W (sFor fi G b) D σ H) : tFor (tI E W fi) (tG E G sl) (tS E W b) D σ H := by
  obtain ⟨ρ, st, m, j, hp⟩ := q
  refine ⟨ρ, st, m, j, PZ.imp (fun Jt H1 z => ?_) (PZ.then (rel := fun m' H' ts J => Wk E m' H' J ts) hp)⟩
  obtain ⟨ts, s1, m1, _, e1, k1, js1, hwk, q1⟩ := z
  exact for_core hwk (j.step e1 k1 js1) q1
theorem s_for {tg iter : Expr} {body : List Stmt} {G : Tg} {sl : List Nat} {b : Fs} {fi : Fa} (hp : PassesOwn (model X.prog X.w) X.A X.env X.xe) (hc : X.calm = true) (hi : PI X tg iter (tI E W fi)) (hg : PG X tg (tG E G sl)) (hb : PSs X body (tS E W b))
    (hs : ∀ x, foldedSetIterable iter X.env x = pure x := by intro _; rfl) : PS X (.For tg iter body [] pos) (tS E W (sFor fi G b)) := (ps_for hp hc hi hg hb hs).weak fun _ _ _ => t_for
end
end Sh

set_option Elab.async false
set_option linter.all false
set_option maxRecDepth 100000
set_option maxHeartbeats 4000000
namespace Sh
open PySem PySem.Spec PyProof.Rows L2
abbrev W0 : XK := fun _ _ _ => False
/-- any things in the making -/
def anyG (E : RE) (G : Tg) (sl : List Nat) : TG := fun v σ H Q => ∃ l, tG (E.x l) G sl v σ H Q
def anyE (E : RE) (f : Fx) : TE := fun σ H Q => ∃ l, tF (E.x l) W0 f σ H Q
def anyT (E : RE) (f : Fb) : TT := fun σ H Q => ∃ l, tFb (E.x l) W0 f σ H Q
section
variable {X : Cx} {E : RE} {e : Expr} {es : List Expr}
theorem pg_any {G : Tg} {sl : List Nat} (h : ∀ l, PG X e (tG (E.x l) G sl)) : PG X e (anyG E G sl) := ⟨fun pins s σ H v u Q I r ⟨l, q⟩ => (h l).run pins s σ H v u Q I r q⟩
theorem pe_any {f : Fx} (h : ∀ l, PE X e (tF (E.x l) W0 f)) : PE X e (anyE E f) := ⟨fun pins s σ H Q I ⟨l, q⟩ => (h l).run pins s σ H Q I q⟩
theorem pts_any {f : Fb} (h : ∀ l, PTs X es (tFb (E.x l) W0 f)) : PTs X es (anyT E f) := ⟨fun pins s σ H Q I ⟨l, q⟩ => (h l).run pins s σ H Q I q⟩
theorem _root_.L2.PTs.weak {t t' : TT} (h : PTs X es t) (w : ∀ σ H Q, t' σ H Q → t σ H Q) : PTs X es t' := ⟨fun pins s σ H Q I q => h.run pins s σ H Q I (w σ H Q q)⟩
theorem q_nil {W : XK} : PTs X [] (tFb E W bYes) := pts_nil.weak fun σ H Q ⟨ρ, st, m, j, hp⟩ => PZ.ok hp j.sto rfl
theorem q_one {W : XK} {c : Expr} {f : Fb} (h : PT X c (tFb E W f)) : PTs X [c] (tFb E W f) := pts_one h
end
section
variable {E : RE} {W : XK} {m m' : Ma} {H H' : Hp} {st s s' : Sto} {X : Cx}
theorem noX_ok {α : Type} {z : Z α} {a : α} {s : Sto} (h : noX z = .ok a s) : z = .ok a s := by
  cases z with
  | ok _ _ => exact h
  | exc _ _ _ => cases h
  | bad => cases h
theorem noX_cases {α : Type} (z : Z α) : (∃ a s, z = .ok a s ∧ noX z = .ok a s) ∨ noX z = .bad := by
  cases z with
  | ok a s => exact .inl ⟨a, s, rfl, rfl⟩
  | exc _ _ _ => exact .inr rfl
  | bad => exact .inr rfl
theorem cLoop_cases {g : Tg} {c : Fb} {e : Fx} {ρ : Lo} : ∀ (xs : List T) (s : Sto), (∃ ys s', cLoop g c e ρ xs s = .ok ys s') ∨ cLoop g c e ρ xs s = .bad
  | [], s => .inl ⟨[], s, rfl⟩
  | x :: xs, s => by
    unfold cLoop
    cases g x ρ with
    | none => exact .inr rfl
    | some ρ' =>
      dsimp only
      rcases noX_cases (c ρ' s) with ⟨b, s1, _, h⟩ | h
      · rw [h]
        simp only [Z.then]
        cases b with
        | true =>
          simp only [if_true]
          rcases noX_cases (e ρ' s1) with ⟨y, s2, _, h⟩ | h
          · rw [h]
            simp only [Z.then]
            rcases cLoop_cases xs s2 with ⟨ys, s3, h⟩ | h
            · rw [h]; exact .inl ⟨_, _, rfl⟩
            · rw [h]; exact .inr rfl
          · rw [h]; exact .inr rfl
        | false =>
          simp only [Bool.false_eq_true, if_false]
          exact cLoop_cases xs s1
      · rw [h]; exact .inr rfl
theorem wipeL_get (ρ : Lo) (j : Nat) : ∀ vs : List Nat, (wipeL ρ vs)[j]? = if j ∈ vs ∧ j < ρ.length then some none else ρ[j]?
  | [] => by simp [wipeL]
  | v :: vs => by
    have hlen : ∀ vs : List Nat, (wipeL ρ vs).length = ρ.length := by
      intro vs
      induction vs with
      | nil => rfl
      | cons _ _ ih => unfold wipeL; rw [List.length_set, ih]
    unfold wipeL
    by_cases h : v = j
    · subst h
      by_cases hl : v < ρ.length
      · rw [List.getElem?_set_self (by rw [hlen]; exact hl), if_pos ⟨by simp, hl⟩]
      · rw [if_neg (fun z => hl z.2), List.getElem?_eq_none (by rw [List.length_set, hlen]; omega), List.getElem?_eq_none (by omega)]
    · rw [List.getElem?_set_ne h, wipeL_get ρ j vs]
      by_cases hj : j ∈ vs ∧ j < ρ.length
      · rw [if_pos hj, if_pos ⟨List.mem_cons_of_mem _ hj.1, hj.2⟩]
      · rw [if_neg hj, if_neg (fun z => hj ⟨(List.mem_cons.mp z.1).resolve_left (fun q => h q.symm), z.2⟩)]
theorem wipeL_len (ρ : Lo) : ∀ vs : List Nat, (wipeL ρ vs).length = ρ.length
  | [] => rfl
  | v :: vs => by unfold wipeL; rw [List.length_set, wipeL_len ρ vs]
theorem Lc.wipe {ρ : Lo} {σ : L2.St} (l : Lc E m H ρ σ) (vs : List Nat) : Lc E m H (wipeL ρ vs) (L2.wipe σ vs) := by
  refine ⟨by rw [wipeL_len, wipe_length]; exact l.len, fun i t h => ?_⟩
  rw [wipeL_get] at h
  split at h
  · cases h
  · rename_i hn
    obtain ⟨v, h1, h2⟩ := l.loc i t h
    refine ⟨v, ?_, h2⟩
    rw [wipe_get, if_neg (by rw [← l.len]; exact hn)]
    exact h1
/-- the heart of a comprehension: the list at D grows -/
theorem lc_coreF {G : Tg} {sl vs : List Nat} {fc : Fb} {fe : Fx} {σ : L2.St} {ρ : Lo} {Qd : Addr → Hp → Prop} {ts ys : List T} {Jt : It} {m1 : Ma} {H1 : Hp} {s1 sF : Sto} (hsl : ∀ i ∈ sl, i ∈ vs) (hwk : Wk E m1 H1 Jt ts) (lc1 : Lc E m1 H1 (wipeL ρ vs) (L2.wipe σ vs)) (js1 : JS E m1 s1 H1) (hl : ts.length ≤ lim)
    (hz : cLoop G fc fe (wipeL ρ vs) ts s1 = .ok ys sF) (q1 : ∀ D H' m', Ext m1 m' H1 → Keep m1 H1 H' → JS E m' sF H' → R E m' H' (.lst ys) (.ref D) → Qd D H') : ∀ D, H1 D = none →
    ∃ W' : Nat → Nat → Hp → Prop, (∃ m, W' 0 m (upd H1 D (.lst []))) ∧ ∀ i m H, W' i m H →
      (Jt.stop i H ∧ Qd D H) ∨ (Jt.go i H ∧ ∃ Nx : Hp → Prop, (∀ H', Nx H' → ∃ m', m' < m ∧ W' (i + 1) m' H') ∧ ∀ x H', Jt.yld i H x H' → anyG E G sl x (L2.wipe σ vs) H' fun σ2 H2 => L2.wipe σ2 vs = L2.wipe σ vs ∧ anyT E fc σ2 H2 fun b H3 =>
        if b = true then anyE E fe σ2 H3 fun y H4 => ∃ acc, H4 D = some (.lst acc) ∧ acc.length < sizeLine ∧ Nx (upd H4 D (.lst (acc ++ [y]))) else Nx H3) := by
  obtain ⟨GG, Y, hw, hG, hY⟩ := hwk
  intro D nD
  have hx : Exs E H1 (D :: E.ex) := fun d hd => (List.mem_cons.mp hd).elim (fun z => .inr (by rw [z]; exact nD)) .inl
  have hD : D ∈ (E.x (D :: E.ex)).ex := by simp
  have ylen : ys.length ≤ ts.length := by
    have : ∀ (xs : List T) (s : Sto) (zs : List T) (s' : Sto), cLoop G fc fe (wipeL ρ vs) xs s = .ok zs s' → zs.length ≤ xs.length := by
      intro xs
      induction xs with
      | nil => intro s zs s' h; cases h; exact Nat.le_refl _
      | cons x xs ih =>
        intro s zs s' h
        unfold cLoop at h
        cases hg : G x (wipeL ρ vs) with
        | none => rw [hg] at h; cases h
        | some ρ' =>
          rw [hg] at h
          dsimp only at h
          rcases noX_cases (fc ρ' s) with ⟨b, s2, _, hb⟩ | hb
          · rw [hb] at h
            simp only [Z.then] at h
            cases b with
            | true =>
              simp only [if_true] at h
              rcases noX_cases (fe ρ' s2) with ⟨y, s3, _, hy⟩ | hy
              · rw [hy] at h
                simp only [Z.then] at h
                rcases cLoop_cases (g := G) (c := fc) (e := fe) (ρ := wipeL ρ vs) xs s3 with ⟨us, s4, hu⟩ | hu
                · rw [hu] at h
                  cases h
                  have := ih _ _ _ hu
                  simp only [List.length_cons]
                  omega
                · rw [hu] at h; cases h
              · rw [hy] at h; cases h
            | false =>
              simp only [Bool.false_eq_true, if_false] at h
              have := ih _ _ _ h
              simp only [List.length_cons]
              omega
          · rw [hb] at h; cases h
    exact this _ _ _ _ hz
  refine lc_it hw (fun i H' => ∃ (accT rest : List T) (acc : List V) (s' : Sto) (m' : Ma), ys = accT ++ rest ∧ cLoop G fc fe (wipeL ρ vs) (ts.drop i) s' = .ok rest sF ∧ Ext m1 m' H1 ∧ Keep m1 H1 H' ∧
      JS (E.x (D :: E.ex)) m' s' H' ∧ H' D = some (.lst acc) ∧ Rs (E.x (D :: E.ex)) m' H' accT acc)
    ⟨[], ys, [], s1, m1, rfl, hz, .refl, keep_new nD, js1.begin nD rfl, upd_same, rfl⟩ (fun i H' _ ⟨_, _, _, _, m', _, _, e, k, _, _, _⟩ => hG m' H' e k) ?_ ?_
  · rintro i x H' H'' hi ⟨accT, rest, acc, s', m', hys, hc, e2, k2, js2, hDl, hr⟩ y
    have hi' : ts[i]? = some ts[i] := List.getElem?_eq_getElem hi
    obtain ⟨k3, js3, r3⟩ := hY (D :: E.ex) i _ x m' s' H' H'' hx hi' e2 k2 js2 y
    have k13 : Keep m1 H1 H'' := k2.trans e2 k3
    rw [List.drop_eq_getElem_cons hi] at hc
    unfold cLoop at hc
    cases hg : G ts[i] (wipeL ρ vs) with
    | none => rw [hg] at hc; cases hc
    | some ρ' =>
      rw [hg] at hc
      dsimp only at hc
      refine ⟨D :: E.ex, ts[i], wipeL ρ vs, ρ', m', r3, lc1.monoX hx e2 k13, hg, fun σ2 wp l2 => ⟨wp vs hsl |>.trans ?_, ?_⟩⟩
      · apply List.ext_getElem?
        intro j2
        rw [wipe_get, wipe_get, wipe_length]
        by_cases hj : j2 ∈ vs ∧ j2 < σ.length
        · rw [if_pos hj, if_pos hj]
        · rw [if_neg hj]
      rcases noX_cases (fc ρ' s') with ⟨b, s4, hb0, hb⟩ | hb
      case inr => rw [hb] at hc; cases hc
      rw [hb] at hc
      simp only [Z.then] at hc
      refine ⟨D :: E.ex, ρ', s', m', l2.j js3, ?_⟩
      rw [hb0]
      intro b' H4 m4 e4 k4 js4 rb
      cases rb
      have dm : D ∉ m'.ad := fun z => js3.dis D z hD
      have D4 : H4 D = some (.lst acc) := k4 D _ (nf dm) (by rw [← hDl]; exact ((k3 D _ (nf dm) hDl).trans hDl.symm))
      have hD3 : H'' D = some (.lst acc) := k3 D _ (nf dm) hDl
      cases b with
      | true =>
        rw [if_pos rfl] at hc ⊢
        rcases noX_cases (fe ρ' s4) with ⟨y1, s5, hy0, hy⟩ | hy
        case inr => rw [hy] at hc; cases hc
        rw [hy] at hc
        simp only [Z.then] at hc
        refine ⟨D :: E.ex, ρ', s4, m4, (l2.mono e4 k4).j js4, ?_⟩
        rw [hy0]
        intro yv H5 m5 e5 k5 js5 ry
        have dm4 : D ∉ m4.ad := fun z => js4.dis D z hD
        have D5 : H5 D = some (.lst acc) := k5 D _ (nf dm4) D4
        rcases cLoop_cases (g := G) (c := fc) (e := fe) (ρ := wipeL ρ vs) (ts.drop (i + 1)) s5 with ⟨us, s6, hu⟩ | hu
        case inr => rw [hu] at hc; cases hc
        rw [hu] at hc
        cases hc
        have ee : Ext m1 m5 H1 := (e2.trans k13 e4).trans (k13.trans e2 k4) e5
        have kk : Keep m1 H1 H5 := (k13.trans e2 k4).trans (e2.trans k13 e4) k5
        have hr5 : Rs (E.x (D :: E.ex)) m5 H5 accT acc := ((hr.mono .refl k3).mono e4 k4).mono e5 k5
        refine ⟨acc, D5, ?_, accT ++ [y1], us, acc ++ [yv], s5, m5, by rw [hys]; simp, hu, ee, ?_, js5.wr hD rfl, upd_same, ?_⟩
        · rw [← hr.length]
          have : (accT ++ y1 :: us).length ≤ lim := by rw [← hys]; exact Nat.le_trans ylen hl
          rw [List.length_append] at this
          exact lim_lt (by omega)
        · intro a o na ha
          rw [upd_ne (ne_of_none ha nD)]
          exact kk a o na ha
        · exact Rs.wr hD (hr5.append ⟨yv, [], rfl, ry, rfl⟩)
      | false =>
        rw [if_neg Bool.false_ne_true] at hc ⊢
        exact ⟨accT, rest, acc, s4, m4, hys, hc, e2.trans k13 e4, k13.trans e2 k4, js4, D4, (hr.mono .refl k3).mono e4 k4⟩
  · rintro H' ⟨accT, rest, acc, s', m', hys, hc, e2, k2, js2, hDl, hr⟩
    rw [List.drop_length] at hc
    cases hc
    rw [List.append_nil] at hys
    subst hys
    have lss : ∀ d ∈ E.ex, d ∈ (D :: E.ex) := fun d hd => List.mem_cons_of_mem _ hd
    exact q1 D H' m' e2 k2 (js2.less lss) ⟨D, acc, rfl, ⟨fun z => js2.dis D z hD, fun z => js1.exn z nD⟩, hDl, hr.less lss⟩
theorem t_lc {G : Tg} {sl vs : List Nat} {fi : Fa} {fc : Fb} {fe : Fx} {σ : L2.St} {Q : VK} (hsl : ∀ i ∈ sl, i ∈ vs) (q : tF E W (vLc vs fi G fc fe) σ H Q) : tLc (tI E W fi) (anyG E G sl) (anyT E fc) (anyE E fe) vs σ H Q := by
  obtain ⟨ρ, st, m, j, hp⟩ := q
  refine ⟨ρ, st, m, j, PZ.imp (fun Jt H1 z => ?_) (PZ.then (rel := fun m' H' ts J => Wk E m' H' J ts) hp)⟩
  obtain ⟨ts, s1, m1, _, e1, k1, js1, hwk, q1⟩ := z
  by_cases hl : ts.length ≤ lim
  case neg => rw [if_neg hl] at q1; exact q1.elim
  rw [if_pos hl] at q1
  rcases cLoop_cases (g := G) (c := fc) (e := fe) (ρ := wipeL ρ vs) ts s1 with ⟨ys, sF, hz⟩ | hz
  case inr => rw [hz] at q1; exact q1.elim
  rw [hz] at q1
  exact lc_coreF hsl hwk ((j.lc.mono e1 k1).wipe vs) js1 hl hz fun D H' m' e k js r => q1 (.ref D) H' m' e k js r
theorem x_lc {elt tg iter : Expr} {ifs : List Expr} {scope : Scope} {own : List (Str × Nat)} {pos : Pos} {fi : Fa} {G : Tg} {sl : List Nat} {fc : Fb} {fe : Fx} (hc : X.calm = true) (hN : X.N.Nodup) (hi : PI X tg iter (tI E W fi)) (ok : BlkOk X.N X.env.scope scope own)
    (hg : ∀ l (s : Shared) (H : Hp) (C : Addr) (cl : List (Str × Addr)) (fp : List Addr), PG (X.blk s H scope (compEnvC scope cl C X.env) fp) tg (tG (E.x l) G sl)) (ht : ∀ l (s : Shared) (H : Hp) (C : Addr) (cl : List (Str × Addr)) (fp : List Addr), PTs (X.blk s H scope (compEnvC scope cl C X.env) fp) ifs (tFb (E.x l) W0 fc))
    (he : ∀ l (s : Shared) (H : Hp) (C : Addr) (cl : List (Str × Addr)) (fp : List Addr), PE (X.blk s H scope (compEnvC scope cl C X.env) fp) elt (tF (E.x l) W0 fe)) (hsl : ∀ i ∈ sl, i ∈ own.map (·.2) := by decide) (hs : ∀ x, foldedSetIterable iter X.env x = pure x := by intro _; rfl) :
    PE X (.ListComp elt [⟨tg, iter, ifs, 0⟩] scope pos) (tF E W (vLc (own.map (·.2)) fi G fc fe)) :=
  (pe_lc hc hN hi ok (fun s H C cl fp => pg_any fun l => hg l s H C cl fp) (fun s H C cl fp => pts_any fun l => ht l s H C cl fp) (fun s H C cl fp => pe_any fun l => he l s H C cl fp) hs).weak fun _ _ _ => t_lc hsl
/-- name = [..] -/
theorem s_setLc {i : Nat} {y : Str} {py : Pos} {elt tg iter : Expr} {ifs : List Expr} {scope : Scope} {own : List (Str × Nat)} {pos spos : Pos} {fi : Fa} {G : Tg} {sl : List Nat} {fc : Fb} {fe : Fx} (hc : X.calm = true) (hN : X.N.Nodup) (hy : X.N[i]? = some y) (hyl : X.env.scope.names.lookup y = some .local)
    (hsw : swapsWith (.ListComp elt [⟨tg, iter, ifs, 0⟩] scope pos) (some (.Name y py)) spos.line X.env = pure true) (hi : PI X tg iter (tI E W fi)) (ok : BlkOk X.N X.env.scope scope own)
    (hg : ∀ l (s : Shared) (H : Hp) (C : Addr) (cl : List (Str × Addr)) (fp : List Addr), PG (X.blk s H scope (compEnvC scope cl C X.env) fp) tg (tG (E.x l) G sl)) (ht : ∀ l (s : Shared) (H : Hp) (C : Addr) (cl : List (Str × Addr)) (fp : List Addr), PTs (X.blk s H scope (compEnvC scope cl C X.env) fp) ifs (tFb (E.x l) W0 fc))
    (he : ∀ l (s : Shared) (H : Hp) (C : Addr) (cl : List (Str × Addr)) (fp : List Addr), PE (X.blk s H scope (compEnvC scope cl C X.env) fp) elt (tF (E.x l) W0 fe)) (hsl : ∀ i ∈ sl, i ∈ own.map (·.2) := by decide) (hs : ∀ x, foldedSetIterable iter X.env x = pure x := by intro _; rfl) :
    PS X (.Assign [.Name y py] (.ListComp elt [⟨tg, iter, ifs, 0⟩] scope pos) spos) (tS E W (sAsg (vLc (own.map (·.2)) fi G fc fe) (gN i))) :=
  (ps_setLc hc hN hy hyl hsw hi ok (fun s H C cl fp => pg_any fun l => hg l s H C cl fp) (fun s H C cl fp => pts_any fun l => ht l s H C cl fp) (fun s H C cl fp => pe_any fun l => he l s H C cl fp) hs).weak fun D σ H ⟨ρ, st, m, j, hp⟩ => t_lc hsl ⟨ρ, st, m, j, PZ.imp (fun v H1 z => by
    obtain ⟨x, s1, m1, _, e1, k1, js1, r1, q1⟩ := z
    have z : toD D (Fv.nx _) H1 := PZ.ok (v := Fv.nx (σ.set i (some v))) q1 js1 ((j.lc.mono e1 k1).set i r1)
    exact z) (PZ.then (rel := R E) hp)⟩
end
end Sh

set_option Elab.async false
set_option linter.all false
set_option maxRecDepth 100000
set_option maxHeartbeats 4000000
namespace Sh
open PySem PySem.Spec PyProof.Rows L2
/-! ### a def's function -/
def startL (N : Nat) (as : List T) : Lo := as.map some ++ List.replicate (N - as.length) none
def runB (N : Nat) (body : Fs) (as : List T) (st : Sto) : Z T := (body (startL N as) st).then fun fl s => match fl with | .rt t => .ok t s | .nx _ => .ok .non s | _ => .bad
mutual
/-- the cells from the n-th on, as what they hold -/
def fz (fn : Nat → List Str) (n : Nat) (s : Sto) : T → Option T
  | .non => some .non | .bl b => some (.bl b) | .int i => some (.int i) | .str x => some (.str x)
  | .tup xs => (fzs fn n s xs).map .tup
  | .lst xs => (fzs fn n s xs).map .lst
  | .scr xs => (fzs fn n s xs).map .scr
  | .tupK xs => (fzs fn n s xs).map .tupK
  | .dK ks xs => (fzs fn n s xs).map (.dK ks)
  | .dT ks xs => (fzs fn n s xs).map (.dT ks)
  | .ins c xs => (fzs fn n s xs).map (.ins c)
  | .cell i => if i < n then some (.cell i) else match s[i]? with
    | some (false, .lst xs) => some (.lst xs)
    | some (false, .dK ks xs) => some (.dK ks xs)
    | some (false, .dT ks xs) => some (.dT ks xs)
    | some (false, .ins c ns xs) => if ns = fn c then some (.ins c xs) else none
    | _ => none
def fzs (fn : Nat → List Str) (n : Nat) (s : Sto) : List T → Option (List T)
  | [] => some []
  | x :: xs => match fz fn n s x, fzs fn n s xs with | some y, some ys => some (y :: ys) | _, _ => none
end
def trunc (fn : Nat → List Str) (n : Nat) : Z T → Z T
  | .ok t s => match fz fn n s t with | some t' => .ok t' (s.take n) | none => .bad
  | .exc c x s => if purs x = true then .exc c x (s.take n) else .bad
  | .bad => .bad
def defF (fn : Nat → List Str) (n N : Nat) (body : Fs) : List T → Sto → Z T := fun as st => if as.length = n then trunc fn st.length (runB N body as st) else .bad

section
variable {E : RE} {W : XK} {m m' : Ma} {H H' : Hp} {st s s' : Sto} {X : Cx}
theorem ad_take (m : Ma) (n : Nat) {a : Addr} (h : a ∉ m.ad) : a ∉ Ma.ad (m.take n) := by
  unfold Ma.ad at h ⊢
  rw [List.map_take]
  exact fun z => h (List.mem_of_mem_take z)
mutual
theorem R.take (n : Nat) : ∀ {t : T} {v : V}, pur t = true → R E m H t v → R E (m.take n) H t v
  | .non, _, _, h => h
  | .bl _, _, _, h => h
  | .int _, _, _, h => h
  | .str _, _, _, h => h
  | .tup xs, v, p, ⟨a, vs, ev, na, hs, hr⟩ => ⟨a, vs, ev, ⟨ad_take m n na.1, na.2⟩, hs, Rs.take n p hr⟩
  | .tupK xs, v, p, ⟨a, vs, ev, hs, hr⟩ => ⟨a, vs, ev, hs, Rs.take n p hr⟩
  | .lst xs, v, p, ⟨a, vs, ev, na, hs, hr⟩ => ⟨a, vs, ev, ⟨ad_take m n na.1, na.2⟩, hs, Rs.take n p hr⟩
  | .scr xs, v, p, ⟨a, vs, ev, hs, hr⟩ => ⟨a, vs, ev, hs.elim (fun z => .inl ⟨⟨ad_take m n z.1.1, z.1.2⟩, z.2⟩) .inr, Rs.take n p hr⟩
  | .dK ks xs, v, p, ⟨a, vs, ev, na, hs, hk, hr⟩ => ⟨a, vs, ev, ⟨ad_take m n na.1, na.2⟩, hs, hk, Rs.take n p hr⟩
  | .dT ks xs, v, p, ⟨a, vs, ev, na, hs, hk, hr⟩ => ⟨a, vs, ev, ⟨ad_take m n na.1, na.2⟩, hs, hk, Rs.take n p hr⟩
  | .ins c xs, v, p, ⟨a, dx, vs, ev, na, hs, hk, hr⟩ => ⟨a, dx, vs, ev, ⟨ad_take m n na.1, na.2⟩, hs, hk, Rs.take n p hr⟩
  | .cell i, v, p, h => by cases p
theorem Rs.take (n : Nat) : ∀ {ts : List T} {vs : List V}, purs ts = true → Rs E m H ts vs → Rs E (m.take n) H ts vs
  | [], _, _, h => h
  | x :: xs, vs, p, ⟨v, r, ev, h1, h2⟩ => by
    unfold purs at p
    rw [Bool.and_eq_true] at p
    exact ⟨v, r, ev, R.take n p.1 h1, Rs.take n p.2 h2⟩
end
theorem CO.take (n : Nat) {o : MO} {u : HO} (p : o.pur = true) (h : CO E m H o u) : CO E (m.take n) H o u := by
  cases o with
  | lst xs => obtain ⟨vs, h1, h2⟩ := h; exact ⟨vs, h1, h2.take n p⟩
  | dK ks xs => obtain ⟨vs, h1, h0, h2⟩ := h; exact ⟨vs, h1, h0, h2.take n p⟩
  | dT ks xs => obtain ⟨vs, h1, h0, h2⟩ := h; exact ⟨vs, h1, h0, h2.take n p⟩
  | ins c ns xs => obtain ⟨dx, vs, h1, h0, h2⟩ := h; exact ⟨dx, vs, h1, h0, h2.take n p⟩
theorem JS.take (js : JS E m s H) (n : Nat) : JS E (m.take n) (s.take n) H := by
  refine ⟨by simp [js.len], ?_, fun i b o h => ?_, fun a ha => js.dis a ?_, js.exs, fun i b o h => ?_⟩
  · unfold Ma.ad
    rw [List.map_take]
    exact js.nod.sublist (List.take_sublist _ _)
  · rw [List.getElem?_take] at h
    split at h
    · exact js.pu i b o h
    · cases h
  · unfold Ma.ad at ha ⊢
    rw [List.map_take] at ha
    exact List.mem_of_mem_take ha
  · rw [List.getElem?_take] at h
    split at h
    · rename_i hi
      obtain ⟨a, k, u, h1, h2, h3⟩ := js.at_ i b o h
      exact ⟨a, k, u, by rw [List.getElem?_take, if_pos hi]; exact h1, h2.take n (js.pu i b o h), h3⟩
    · cases h
mutual
theorem fz_ok (n : Nat) (js : JS E m s H) : ∀ {t t' : T} {v : V}, fz E.fn n s t = some t' → R E m H t v → R E (m.take n) H t' v
  | .non, _, _, h, r => by cases h; exact r
  | .bl _, _, _, h, r => by cases h; exact r
  | .int _, _, _, h, r => by cases h; exact r
  | .str _, _, _, h, r => by cases h; exact r
  | .tup xs, t', v, h, ⟨a, vs, ev, na, hs, hr⟩ => by
    unfold fz at h
    obtain ⟨ys, h1, rfl⟩ := Option.map_eq_some_iff.mp h
    exact ⟨a, vs, ev, ⟨ad_take m n na.1, na.2⟩, hs, fzs_ok n js h1 hr⟩
  | .tupK xs, t', v, h, ⟨a, vs, ev, hs, hr⟩ => by
    unfold fz at h
    obtain ⟨ys, h1, rfl⟩ := Option.map_eq_some_iff.mp h
    exact ⟨a, vs, ev, hs, fzs_ok n js h1 hr⟩
  | .lst xs, t', v, h, ⟨a, vs, ev, na, hs, hr⟩ => by
    unfold fz at h
    obtain ⟨ys, h1, rfl⟩ := Option.map_eq_some_iff.mp h
    exact ⟨a, vs, ev, ⟨ad_take m n na.1, na.2⟩, hs, fzs_ok n js h1 hr⟩
  | .scr xs, t', v, h, ⟨a, vs, ev, hs, hr⟩ => by
    unfold fz at h
    obtain ⟨ys, h1, rfl⟩ := Option.map_eq_some_iff.mp h
    exact ⟨a, vs, ev, hs.elim (fun z => .inl ⟨⟨ad_take m n z.1.1, z.1.2⟩, z.2⟩) .inr, fzs_ok n js h1 hr⟩
  | .dK ks xs, t', v, h, ⟨a, vs, ev, na, hs, hk, hr⟩ => by
    unfold fz at h
    obtain ⟨ys, h1, rfl⟩ := Option.map_eq_some_iff.mp h
    exact ⟨a, vs, ev, ⟨ad_take m n na.1, na.2⟩, hs, hk, fzs_ok n js h1 hr⟩
  | .dT ks xs, t', v, h, ⟨a, vs, ev, na, hs, hk, hr⟩ => by
    unfold fz at h
    obtain ⟨ys, h1, rfl⟩ := Option.map_eq_some_iff.mp h
    exact ⟨a, vs, ev, ⟨ad_take m n na.1, na.2⟩, hs, hk, fzs_ok n js h1 hr⟩
  | .ins c xs, t', v, h, ⟨a, dx, vs, ev, na, hs, hk, hr⟩ => by
    unfold fz at h
    obtain ⟨ys, h1, rfl⟩ := Option.map_eq_some_iff.mp h
    exact ⟨a, dx, vs, ev, ⟨ad_take m n na.1, na.2⟩, hs, hk, fzs_ok n js h1 hr⟩
  | .cell i, t', v, h, r => by
    unfold fz at h
    by_cases hi : i < n
    · rw [if_pos hi] at h
      cases h
      obtain ⟨a, h1, rfl⟩ := r
      obtain ⟨k, h2⟩ := ad_get.mp h1
      exact ⟨a, ad_get.mpr ⟨k, by rw [List.getElem?_take, if_pos hi]; exact h2⟩, rfl⟩
    · rw [if_neg hi] at h
      have fr : ∀ a k, m[i]? = some (a, k) → Fr E (m.take n) a := fun a k hm => by
        refine ⟨fun z => ?_, js.dis a (List.mem_of_getElem? (ad_get.mpr ⟨k, hm⟩))⟩
        unfold Ma.ad at z
        rw [List.map_take] at z
        obtain ⟨j, hj⟩ := List.getElem?_of_mem z
        rw [List.getElem?_take] at hj
        split at hj
        · rename_i hjn
          have := ad_ix js.nod (ad_get.mpr ⟨k, hm⟩) hj
          omega
        · cases hj
      split at h
      · rename_i xs q
        cases h
        obtain ⟨a, k, u, rfl, hm, ⟨vs, rfl, hr⟩, lk⟩ := cell_of js r q
        cases k with
        | none => exact ⟨a, vs, rfl, fr a _ hm, lk, hr.take n (js.pu i _ _ q)⟩
        | some _ => exact lk.elim
      · rename_i ks xs q
        cases h
        obtain ⟨a, k, u, rfl, hm, ⟨vs, rfl, hl, hr⟩, lk⟩ := cell_of js r q
        exact ⟨a, vs, rfl, fr a _ hm, lk.rd, hl, hr.take n (js.pu i _ _ q)⟩
      · rename_i ks xs q
        cases h
        obtain ⟨a, k, u, rfl, hm, ⟨vs, rfl, hl, hr⟩, lk⟩ := cell_of js r q
        exact ⟨a, vs, rfl, fr a _ hm, lk.rd, hl, hr.take n (js.pu i _ _ q)⟩
      · rename_i c ns xs q
        split at h
        · rename_i hns
          cases h
          obtain ⟨a, k, u, rfl, hm, ⟨dx, vs, rfl, hl, hr⟩, lk⟩ := cell_of js r q
          subst hns
          cases k with
          | none => exact ⟨a, dx, vs, rfl, fr a _ hm, lk, hl, hr.take n (js.pu i _ _ q)⟩
          | some _ => exact lk.elim
        · cases h
      · cases h
theorem fzs_ok (n : Nat) (js : JS E m s H) : ∀ {ts ts' : List T} {vs : List V}, fzs E.fn n s ts = some ts' → Rs E m H ts vs → Rs E (m.take n) H ts' vs
  | [], _, _, h, r => by cases h; exact r
  | x :: xs, ts', vs, h, ⟨v, w, ev, r1, r2⟩ => by
    unfold fzs at h
    cases q : fz E.fn n s x with
    | none => rw [q] at h; cases h
    | some y =>
      cases q2 : fzs E.fn n s xs with
      | none => rw [q, q2] at h; cases h
      | some ys =>
        rw [q, q2] at h
        cases h
        exact ⟨v, w, ev, fz_ok n js q r1, fzs_ok n js q2 r2⟩
end

/-! ### a def's promise -/
def spF (K : PySem.W.Frag) (ca : Nat → Addr) (fn xn : Nat → List Str) (n : Nat) (F : List T → Sto → Z T) : Sp := fun vs H Q W => ∃ l as st m, vs.length = n ∧ JS ⟨K, ca, fn, xn, l⟩ m st H ∧ Rs ⟨K, ca, fn, xn, l⟩ m H as vs ∧ PZ ⟨K, ca, fn, xn, l⟩ W (R ⟨K, ca, fn, xn, l⟩) m H Q (F as st)
theorem start_lc {N : List Str} {as : List T} {vs : List V} (r : Rs E m H as vs) (hl : as.length ≤ N.length) : Lc E m H (startL N.length as) (L2.start N vs) := by
  have el := r.length
  refine ⟨by unfold startL L2.start; simp [el], fun i t h => ?_⟩
  unfold startL at h
  by_cases hi : i < as.length
  · rw [List.getElem?_append_left (by simpa using hi), List.getElem?_map] at h
    cases q : as[i]? with
    | none => rw [q] at h; cases h
    | some x =>
      rw [q] at h
      cases h
      obtain ⟨v, h1, h2⟩ := at_ok r q
      refine ⟨v, ?_, h2⟩
      unfold L2.start
      rw [List.getElem?_append_left (by rw [List.length_map, ← el]; exact hi), List.getElem?_map, h1]
      rfl
  · rw [List.getElem?_append_right (by simpa using Nat.le_of_not_lt hi)] at h
    rw [List.getElem?_replicate] at h
    split at h <;> cases h
theorem take_ext {m m' : Ma} (e : Ext m m' H) : m'.take m.length = m := by
  obtain ⟨new, rfl, _⟩ := e
  simp
theorem XR.take (n : Nat) {c : Nat} {x : List T} {cls : Value} {d : Option Addr} (p : purs x = true) (h : XR E m H c x cls d) : XR E (m.take n) H c x cls d :=
  ⟨h.1, h.2.elim .inl fun ⟨dd, vs, h1, h2, h3, h4⟩ => .inr ⟨dd, vs, h1, h2, h3, h4.take n p⟩⟩
/-- from the body's outcome to the def's -/
theorem body_ok {N : Nat} {b : Fs} {as : List T} {Q : VK} (hm : m.length = st.length) (hp : PZ E W (R E) m H Q (trunc E.fn st.length (runB N b as st))) : PZ E W (rFl E) m H (toD { nx := fun _ H' => Q .non H', rt := Q }) (b (startL N as) st) := by
  unfold runB at hp
  cases hb : b (startL N as) st with
  | bad => rw [hb] at hp; exact hp.elim
  | exc c x s =>
    rw [hb] at hp
    intro cls d H' m' e k js xr
    simp only [Z.then, trunc] at hp
    by_cases hx : purs x = true
    · rw [if_pos hx] at hp
      have jt := js.take m.length
      have xt := xr.take m.length hx
      rw [take_ext e, hm] at jt
      rw [take_ext e] at xt
      exact hp cls d H' m .refl k jt xt
    · rw [if_neg hx] at hp; exact hp.elim
  | ok fl s =>
    rw [hb] at hp
    intro fv H' m' e k js r
    have jt := js.take m.length
    rw [take_ext e, hm] at jt
    cases fl with
    | rt t => cases fv with
      | rt v =>
        simp only [Z.then, trunc] at hp
        cases hz : fz E.fn st.length s t with
        | none => rw [hz] at hp; exact hp.elim
        | some t' =>
          rw [hz] at hp
          have rt := fz_ok st.length js hz r
          rw [← hm, take_ext e] at rt
          exact hp v H' m .refl k jt rt
      | _ => exact r.elim
    | nx ρ => cases fv with
      | nx σ =>
        simp only [Z.then, trunc, fz] at hp
        exact hp .non H' m .refl k jt rfl
      | _ => exact r.elim
    | bk ρ => exact hp.elim
    | ct ρ => exact hp.elim
end
section
variable {P : Program} {w : World} {K : PySem.W.Frag} {mg : Str → Option Value} {base : Heap} {ca : Nat → Addr} {fn xn : Nat → List Str}
/-- THE RULE for a def -/
theorem okF {x qual : Str} {stt : Stmt} {f : Addr} {fd : FuncData} {N ps : List Str} {k : Nat} {b : Fs} (F : Fun K x qual stt f fd) (S : FnScope N ps (defScope stt)) (hps : ps.length ≤ N.length)
    (hbody : ∀ (l : List Addr) (cdv : Value) (A : Around) (outer : List Env) (s : Shared) (H : Hp) (W : XK), Room k (A.deeper (envOfC qual (defScope stt) s.heap.objs.size f cdv)) →
      PSs (cxOf (L2.CX P w) P w K mg base N qual (defScope stt) f cdv A outer s H W) (defBody stt) (tS ⟨K, ca, fn, xn, l⟩ W b)) :
    FnOk P w K mg base (L2.CX P w) (k + 1) f fd ps (spF K ca fn xn ps.length (defF fn ps.length N.length b)) := by
  refine F.okX S (fun vs H Q E ⟨_, _, _, _, h, _⟩ => h) fun cdv A outer s H vs Q W hr ⟨l, as, st, m, hl, js, rs, hp⟩ => ⟨_, hbody l cdv A outer s H W hr, ?_⟩
  unfold defF at hp
  by_cases ha : as.length = ps.length
  · rw [if_pos ha] at hp
    exact ⟨startL N.length as, st, m, (start_lc rs (by omega)).j js, body_ok js.len hp⟩
  · rw [if_neg ha] at hp; exact hp.elim
end

/-! ### calls -/
section
variable {E : RE} {W : XK} {m m' : Ma} {H H' : Hp} {st s s' : Sto} {X : Cx} {k : Nat} {f : Addr} {fd : FuncData} {ps : List Str} {FF : List T → Sto → Z T} {x : Str} {e : Expr} {es : List Expr} {fs : Fa} {p pos : Pos}
theorem pass0 : Passes (L2.CX X.prog X.w) X W0 := passL
theorem passX (tk : L2.Takes X (fun cls d _ H => W cls d H)) : Passes (L2.CX X.prog X.w) X W := passes_call tk fun _ _ _ _ h => h
/-- the def keeps its function -/
abbrev OkF (X : Cx) (E : RE) (k : Nat) (f : Addr) (fd : FuncData) (ps : List Str) (n : Nat) (FF : List T → Sto → Z T) : Prop := FnOk X.prog X.w X.K X.mg X.base (L2.CX X.prog X.w) k f fd ps (spF E.K E.ca E.fn E.xn n FF)
theorem sp_of {vs : List V} {as : List T} {Q : VK} (js : JS E m s H) (r : Rs E m H as vs) (hl : vs.length = n) (q : PZ E W (R E) m H Q (FF as s)) : spF E.K E.ca E.fn E.xn n FF vs H Q W := ⟨E.ex, as, s, m, hl, js, r, q⟩
theorem len_of {n : Nat} {vs : List V} {as : List T} {Q : VK} (hF : ∀ as st, as.length ≠ n → FF as st = .bad) (r : Rs E m H as vs) (q : PZ E W (R E) m H Q (FF as s)) : vs.length = n := by
  by_cases h : as.length = n
  · rw [← r.length]; exact h
  · rw [hF as s h] at q; exact q.elim
/-- f(e, ..), with the defaults ds -/
theorem x_callD {n : Nat} {ds : List T} {dvs : List V} {dus : List Value} (F : OkF X E k f fd ps n FF) (hr : Room k X.A) (hm : X.mg x = some (.ref f)) (hk : PySem.W.keepIn X.K (.ref f) = true) (hb : Binds X.K fd ps dus) (hd : Vals dvs dus) (hdR : ∀ m H, Rs E m H ds dvs)
    (hx : Passes (L2.CX X.prog X.w) X W) (ha : PA X (e :: es) (tFs E W fs)) (hF : ∀ as st, as.length ≠ n → FF as st = .bad := by exact fun _ _ h => if_neg h) (hg : Gl X x := by rfl) (hdb : (x == ("__debug__" : Str)) = false := by decide)
    (he : starEach (e :: es) X.env = (false, eval e X.env) :: starEach es X.env := by rfl) (hpl : (backTo pos (starEach es X.env)).any (·.1) = false := by rfl) : PE X (.Call (.Name x p) (e :: es) [] pos) (tF E W (vA (fun as s => FF (as ++ ds) s) fs)) :=
  (pe_call F hr hg hm hk hb hd hx ha hdb he hpl).weak fun σ H Q ⟨ρ, st, m, j, hp⟩ => by
    refine ⟨ρ, st, m, j, PZ.imp (fun v H1 z => ?_) (PZ.then (rel := Rs E) hp)⟩
    obtain ⟨as, s1, m1, _, e1, k1, js1, r1, q1⟩ := z
    have rr := r1.append (hdR m1 H1)
    exact sp_of js1 rr (len_of hF rr q1) q1
theorem x_call {n : Nat} (F : OkF X E k f fd ps n FF) (hr : Room k X.A) (hm : X.mg x = some (.ref f)) (hk : PySem.W.keepIn X.K (.ref f) = true) (hb : Binds X.K fd ps [])
    (hx : Passes (L2.CX X.prog X.w) X W) (ha : PA X (e :: es) (tFs E W fs)) (hF : ∀ as st, as.length ≠ n → FF as st = .bad := by exact fun _ _ h => if_neg h) (hg : Gl X x := by rfl) (hdb : (x == ("__debug__" : Str)) = false := by decide)
    (he : starEach (e :: es) X.env = (false, eval e X.env) :: starEach es X.env := by rfl) (hpl : (backTo pos (starEach es X.env)).any (·.1) = false := by rfl) : PE X (.Call (.Name x p) (e :: es) [] pos) (tF E W (vA FF fs)) :=
  (pe_call F hr hg hm hk hb .nil hx ha hdb he hpl).weak fun σ H Q ⟨ρ, st, m, j, hp⟩ => by
    refine ⟨ρ, st, m, j, PZ.imp (fun v H1 z => ?_) (PZ.then (rel := Rs E) hp)⟩
    obtain ⟨as, s1, m1, _, e1, k1, js1, r1, q1⟩ := z
    show spF _ _ _ _ _ _ (v ++ []) H1 Q W
    rw [List.append_nil]
    exact sp_of js1 r1 (len_of hF r1 q1) q1
theorem x_call0 {n : Nat} (F : OkF X E k f fd ps n FF) (hr : Room k X.A) (hm : X.mg x = some (.ref f)) (hk : PySem.W.keepIn X.K (.ref f) = true) (hb : Binds X.K fd ps [])
    (hx : Passes (L2.CX X.prog X.w) X W) (hF : ∀ as st, as.length ≠ n → FF as st = .bad := by exact fun _ _ h => if_neg h) (hg : Gl X x := by rfl) (hdb : (x == ("__debug__" : Str)) = false := by decide) : PE X (.Call (.Name x p) [] [] pos) (tF E W (fun _ s => FF [] s)) :=
  (pe_call0 F hr hg hm hk hb .nil hx hdb).weak fun σ H Q ⟨ρ, st, m, j, hp⟩ => sp_of (as := []) j.sto (rfl : Rs E m H [] []) (len_of (vs := []) (as := []) hF (rfl : Rs E m H [] []) hp) hp
end
end Sh

set_option Elab.async false
set_option linter.all false
set_option maxRecDepth 100000
set_option maxHeartbeats 4000000
namespace Sh
open PySem PySem.Spec PyProof.Rows L2
/-! ### attributes -/
/-- the names and values of an instance of the class c0 -/
def insOf (fn : Nat → List Str) (c0 : Nat) (s : Sto) : T → Option (List Str × List T)
  | .ins c xs => if c = c0 then some (fn c0, xs) else none
  | .cell i => match s[i]? with | some (false, .ins c ns xs) => if c = c0 then some (ns, xs) else none | _ => none
  | _ => none
def hFld (fn : Nat → List Str) (c0 : Nat) (f : Str) : T → Sto → Z T := fun t s => match insOf fn c0 s t with
  | some (ns, xs) => match kget ns xs f with | some u => .ok u s | none => .bad
  | none => .bad
def hProp (fn : Nat → List Str) (c0 : Nat) (FF : List T → Sto → Z T) : T → Sto → Z T := fun t s => match insOf fn c0 s t with
  | some _ => noX (FF [t] s)
  | none => .bad
def hMeth (fn : Nat → List Str) (c0 : Nat) (nm : Str) (FF : List T → Sto → Z T) (f : Fx) (fs : Fa) : Fx := fun ρ st => (f ρ st).then fun t s => match insOf fn c0 s t with
  | some (ns, xs) => match kget ns xs nm with
    | none => (fs ρ s).then fun as s => FF (t :: as) s
    | some _ => .bad
  | none => .bad
/-- C(..), to be a tree -/
def mkF (fn : Nat → List Str) (c0 : Nat) (FF : List T → Sto → Z T) : List T → Sto → Z T := fun as s => match FF (.cell s.length :: as) (s ++ [(false, .ins c0 [] [])]) with
  | .ok .non s' => match fz fn s.length s' (.cell s.length) with | some t => .ok t (s'.take s.length) | none => .bad
  | .ok _ _ => .bad
  | .exc c x s' => if purs x = true then .exc c x (s'.take s.length) else .bad
  | .bad => .bad
/-- o.f = v -/
def putN : List Str → List T → Str → T → Option (List Str × List T)
  | [], [], f, v => some ([f], [v])
  | n :: ns, x :: xs, f, v => if n = f then some (n :: ns, v :: xs) else match putN ns xs f v with | some r => some (n :: r.1, x :: r.2) | none => none
  | _, _, _, _ => none
def hFput (c0 : Nat) (f : Str) (o v : T) (s : Sto) : Option Sto := match o with
  | .cell i => match s[i]? with
    | some (false, .ins c ns xs) => if c = c0 ∧ pur v = true ∧ ns.length < 100 then match putN ns xs f v with | some r => some (s.set i (false, .ins c0 r.1 r.2)) | none => none else none
    | _ => none
  | _ => none
def sFput (c0 : Nat) (f : Str) (fo fv : Fx) : Fs := fun ρ st => (fv ρ st).then fun v s => (fo ρ s).then fun o s => match hFput c0 f o v s with | some s' => .ok (.nx ρ) s' | none => .bad
section
variable {E : RE} {W : XK} {m m' : Ma} {H H' : Hp} {st s s' : Sto} {X : Cx} {t : T} {v : V} {e : Expr} {fe : Fx} {pos : Pos} {f : Str}
theorem insOf_ok {c0 : Nat} {ns : List Str} {xs : List T} (h : insOf E.fn c0 s t = some (ns, xs)) (js : JS E m s H) (r : R E m H t v) : ∃ a dx vs, v = .ref a ∧ H a = some (.ins (E.ca c0) dx (ns.zip vs)) ∧ ns.length = vs.length ∧ Rs E m H xs vs := by
  cases t with
  | ins c ys =>
    unfold insOf at h
    dsimp only at h
    split at h
    · rename_i hc
      cases h
      subst hc
      obtain ⟨a, dx, vs, ev, na, hs, hl, hr⟩ := r
      exact ⟨a, dx, vs, ev, hs, hl, hr⟩
    · cases h
  | cell i =>
    unfold insOf at h
    dsimp only at h
    split at h
    · rename_i c ns' xs' q
      split at h
      · rename_i hc
        cases h
        subst hc
        obtain ⟨a, k, u, rfl, hm, ⟨dx, vs, rfl, hl, hr⟩, lk⟩ := cell_of js r q
        cases k with
        | none => exact ⟨a, dx, vs, rfl, lk, hl, hr⟩
        | some _ => exact lk.elim
      · cases h
    · cases h
  | _ => cases h
theorem lookup_ok : ∀ {ns : List Str} {xs : List T} {vs : List V} (q : Str), ns.length = vs.length → Rs E m H xs vs →
    (∀ t, kget ns xs q = some t → ∃ v, (ns.zip vs).lookup q = some v ∧ R E m H t v) ∧ (kget ns xs q = none → (ns.zip vs).lookup q = none)
  | [], _, vs, q, hl, r => by
    refine ⟨fun t h => (by simp [kget] at h), fun _ => ?_⟩
    cases vs with
    | nil => rfl
    | cons _ _ => simp at hl
  | k :: ks, [], vs, q, hl, r => by
    cases (show vs = [] from r)
    simp at hl
  | k :: ks, x :: xs, vs, q, hl, r => by
    obtain ⟨v, w, rfl, r1, r2⟩ := r
    have ih := lookup_ok (ns := ks) (xs := xs) (vs := w) q (by simpa using hl) r2
    unfold kget
    rw [List.zip_cons_cons]
    by_cases e : k = q
    · subst e
      rw [if_pos rfl]
      refine ⟨fun t h => ?_, fun h => by cases h⟩
      cases h
      exact ⟨v, by simp [List.lookup], r1⟩
    · rw [if_neg e]
      have ne : (q == k) = false := by simpa using fun z => e (Eq.symm z)
      refine ⟨fun t h => ?_, fun h => ?_⟩
      · obtain ⟨u, h1, h2⟩ := ih.1 t h
        exact ⟨u, by simp only [List.lookup, ne]; exact h1, h2⟩
      · simp only [List.lookup, ne]; exact ih.2 h
theorem x_fld (c0 : Nat) (cl : Cls X.K (E.ca c0)) (na : NoAttr X.K (E.ca c0) f) (he : PE X e (tF E W fe)) (hb : attributeBase e f X.env (eval e X.env) = eval e X.env := by rfl) : PE X (.Attribute e f pos) (tF E W (v1 (hFld E.fn c0 f) fe)) := (pe_fld he hb).weak fun σ H Q ⟨ρ, st, m, j, hp⟩ => by
  refine ⟨ρ, st, m, j, PZ.imp (fun v H1 z => ?_) (PZ.then (rel := R E) hp)⟩
  obtain ⟨x, s1, m1, _, e1, k1, js1, r1, q1⟩ := z
  unfold hFld at q1
  cases hi : insOf E.fn c0 s1 x with
  | none => rw [hi] at q1; exact q1.elim
  | some p =>
    obtain ⟨ns, xs⟩ := p
    rw [hi] at q1
    dsimp only at q1
    obtain ⟨a, dx, vs, rfl, hs, hl, hr⟩ := insOf_ok hi js1 r1
    cases hk : kget ns xs f with
    | none => rw [hk] at q1; exact q1.elim
    | some u =>
      rw [hk] at q1
      obtain ⟨w, h1, h2⟩ := (lookup_ok f hl hr).1 u hk
      exact ⟨a, _, dx, _, w, rfl, hs, cl, na, h1, PZ.ok q1 js1 h2⟩
theorem PZ.w0 {α β : Type} {rel : Ma → Hp → α → β → Prop} {Q : β → Hp → Prop} {z : Z α} (h : PZ E W rel m H Q (noX z)) : PZ E W0 rel m H Q z := by
  cases z with
  | ok _ _ => exact h
  | exc _ _ _ => exact h.elim
  | bad => exact h.elim
theorem x_prop (c0 : Nat) {k n : Nat} {p g : Addr} {fd : FuncData} {ps : List Str} {FF : List T → Sto → Z T} (cl : Cls X.K (E.ca c0)) (hp : PropOf X.K (E.ca c0) f p g) (F : OkF X E k g fd ps n FF) (hr : Room (k + 1) X.A) (hb : Binds X.K fd ps []) (he : PE X e (tF E W fe))
    (hF : ∀ as st, as.length ≠ n → FF as st = .bad := by exact fun _ _ h => if_neg h) (hab : attributeBase e f X.env (eval e X.env) = eval e X.env := by rfl) : PE X (.Attribute e f pos) (tF E W (v1 (hProp E.fn c0 FF) fe)) :=
  (pe_prop he cl hp F hr hb .nil (pass0 (X := X.nox)) hab).weak fun σ H Q ⟨ρ, st, m, j, hp⟩ => by
    refine ⟨ρ, st, m, j, PZ.imp (fun v H1 z => ?_) (PZ.then (rel := R E) hp)⟩
    obtain ⟨x, s1, m1, _, e1, k1, js1, r1, q1⟩ := z
    unfold hProp at q1
    cases hi : insOf E.fn c0 s1 x with
    | none => rw [hi] at q1; exact q1.elim
    | some p =>
      rw [hi] at q1
      dsimp only at q1
      obtain ⟨a, dx, vs, rfl, hs, hl, hr⟩ := insOf_ok (ns := p.1) (xs := p.2) hi js1 r1
      have rr : Rs E m1 H1 [x] [V.ref a] := ⟨_, _, rfl, r1, rfl⟩
      exact ⟨a, dx, _, rfl, hs, sp_of js1 rr (len_of hF rr q1.w0) q1.w0⟩
theorem x_meth (c0 : Nat) {k n : Nat} {g : Addr} {mn : Str} {fd : FuncData} {ps : List Str} {FF : List T → Sto → Z T} {o : Expr} {es : List Expr} {apos : Pos} {fs : Fa} {pl : Sem Bool} (cl : Cls X.K (E.ca c0)) (hm : Meth X.K (E.ca c0) mn g) (F : OkF X E k g fd ps n FF) (hr : Room k X.A) (hb : Binds X.K fd ps []) (hx : Passes (L2.CX X.prog X.w) X W)
    (ho : PE X o (tF E W fe)) {t : TE} (hpe : ∀ ta tf, PE X o ta → PA X (e :: es) tf → PE X (.Call (.Attribute o mn apos) (e :: es) [] pos) (tMeth (E.ca c0) mn (spF E.K E.ca E.fn E.xn n FF) [] W ta tf)) (ha : PA X (e :: es) (tFs E W fs))
    (hF : ∀ as st, as.length ≠ n → FF as st = .bad := by exact fun _ _ h => if_neg h) : PE X (.Call (.Attribute o mn apos) (e :: es) [] pos) (tF E W (hMeth E.fn c0 mn FF fe fs)) :=
  (hpe _ _ ho ha).weak fun σ H Q ⟨ρ, st, m, j, hp⟩ => by
    refine ⟨ρ, st, m, j, PZ.imp (fun v H1 z => ?_) (PZ.then (rel := R E) hp)⟩
    obtain ⟨x, s1, m1, _, e1, k1, js1, r1, q1⟩ := z
    cases hi : insOf E.fn c0 s1 x with
    | none => rw [hi] at q1; exact q1.elim
    | some p =>
      obtain ⟨ns, xs⟩ := p
      rw [hi] at q1
      dsimp only at q1
      obtain ⟨a, dx, vs, rfl, hs, hl, hr⟩ := insOf_ok hi js1 r1
      cases hk : kget ns xs mn with
      | some _ => rw [hk] at q1; exact q1.elim
      | none =>
        rw [hk] at q1
        refine ⟨a, dx, _, rfl, hs, (lookup_ok mn hl hr).2 hk, ρ, s1, m1, j.step e1 k1 js1, PZ.imp (fun w H2 z => ?_) (PZ.then (rel := Rs E) q1)⟩
        obtain ⟨as, s2, m2, _, e2, k2, js2, r2, q2⟩ := z
        have rr : Rs E m2 H2 (x :: as) (V.ref a :: w) := ⟨_, _, rfl, r1.mono e2 k2, r2⟩
        rw [List.append_nil]
        exact sp_of js2 rr (len_of hF rr q2) q2
/-- C(e, ..) -/
theorem mk_sp (c0 : Nat) {n : Nat} {FF : List T → Sto → Z T} {as : List T} {vs : List V} {Q : VK} (js : JS E m s H) (r : Rs E m H as vs) (hF : ∀ as st, as.length ≠ n → FF as st = .bad) (hp : PZ E W (R E) m H Q (mkF E.fn c0 FF as s)) :
    ∀ x dx, H x = none → H dx = none → dx ≠ x → spF E.K E.ca E.fn E.xn n FF (.ref x :: vs) (upd (upd H dx (.own x)) x (.ins (E.ca c0) dx [])) (fun v H2 => v = .non ∧ Q (.ref x) H2) W := by
  intro x dx nx ndx nex
  have nx2 : (upd H dx (.own x)) x = none := by rw [upd_ne nex.symm]; exact nx
  have js2 := (js.new (o := .own x) ndx).cell (o := .ins c0 [] []) (u := .ins (E.ca c0) dx []) nx2 ⟨dx, [], rfl, rfl, rfl⟩ rfl
  have e2 : Ext m (m ++ [(x, none)]) H := ext_cell js nx
  have k2 : Keep m H (upd (upd H dx (.own x)) x (.ins (E.ca c0) dx [])) := fun a o _ h => by rw [upd_ne (ne_of_none h nx), upd_ne (ne_of_none h ndx)]; exact h
  have rr : Rs E (m ++ [(x, none)]) (upd (upd H dx (.own x)) x (.ins (E.ca c0) dx [])) (.cell s.length :: as) (.ref x :: vs) := ⟨_, _, rfl, cell_new (js.new (o := .own x) ndx), r.mono e2 k2⟩
  have hq : PZ E W (R E) (m ++ [(x, none)]) (upd (upd H dx (.own x)) x (.ins (E.ca c0) dx [])) (fun v H2 => v = .non ∧ Q (.ref x) H2) (FF (.cell s.length :: as) (s ++ [(false, .ins c0 [] [])])) := by
    unfold mkF at hp
    have tk : ∀ {m' : Ma} {H' : Hp}, Ext (m ++ [(x, none)]) m' (upd (upd H dx (.own x)) x (.ins (E.ca c0) dx [])) → m'.take s.length = m := fun {m' H'} e => by
      obtain ⟨new, rfl, _⟩ := e
      rw [← js.len, List.append_assoc]
      simp
    have kk : ∀ {H' : Hp}, Keep (m ++ [(x, none)]) (upd (upd H dx (.own x)) x (.ins (E.ca c0) dx [])) H' → Keep m H H' := fun {H'} k a o na h => by
      refine k a o ?_ (k2 a o na h)
      rw [fre_app, List.mem_append]
      rintro (z | z)
      · exact na z
      · have : a = x := by simpa [Ma.fre] using z
        rw [this, nx] at h
        cases h
    cases hz : FF (.cell s.length :: as) (s ++ [(false, .ins c0 [] [])]) with
    | bad => rw [hz] at hp; exact hp.elim
    | exc c y s' =>
      rw [hz] at hp
      dsimp only at hp
      intro cls d H' m' e k js' xr
      by_cases hy : purs y = true
      · rw [if_pos hy] at hp
        have jt := js'.take s.length
        have xt := xr.take s.length hy
        rw [tk (H' := H') e] at jt xt
        exact hp cls d H' m .refl (kk k) jt xt
      · rw [if_neg hy] at hp; exact hp.elim
    | ok t s' =>
      rw [hz] at hp
      intro v H' m' e k js' rt
      cases t with
      | non =>
        dsimp only at hp
        refine ⟨rt, ?_⟩
        cases hf : fz E.fn s.length s' (.cell s.length) with
        | none => rw [hf] at hp; exact hp.elim
        | some t' =>
          rw [hf] at hp
          have rc : R E m' H' (.cell s.length) (.ref x) := (cell_new (js.new (o := .own x) ndx) (o := .ins (E.ca c0) dx [])).mono e k
          have jt := js'.take s.length
          have ft := fz_ok s.length js' hf rc
          rw [tk (H' := H') e] at jt ft
          exact hp (.ref x) H' m .refl (kk k) jt ft
      | _ => exact hp.elim
  exact sp_of js2 rr (len_of hF rr hq) hq
theorem x_make (c0 : Nat) {k n : Nat} {f : Addr} {x : Str} {fd : FuncData} {ps : List Str} {FF : List T → Sto → Z T} {es : List Expr} {p : Pos} {fs : Fa} (M : Mk X.K (E.ca c0) f) (F : OkF X E k f fd ps n FF) (hr : Room (k + 1) X.A) (hm : X.mg x = some (.ref (E.ca c0))) (hb : Binds X.K fd ps [])
    (hx : Passes (L2.CX X.prog X.w) X W) (ha : PA X (e :: es) (tFs E W fs)) (hF : ∀ as st, as.length ≠ n → FF as st = .bad := by exact fun _ _ h => if_neg h) (hg : Gl X x := by rfl) (hdb : (x == ("__debug__" : Str)) = false := by decide)
    (he : starEach (e :: es) X.env = (false, eval e X.env) :: starEach es X.env := by rfl) (hpl : (backTo pos (starEach es X.env)).any (·.1) = false := by rfl) : PE X (.Call (.Name x p) (e :: es) [] pos) (tF E W (vA (mkF E.fn c0 FF) fs)) :=
  (pe_make M F hr hg hm hb .nil hx ha hdb he hpl).weak fun σ H Q ⟨ρ, st, m, j, hp⟩ => by
    refine ⟨ρ, st, m, j, PZ.imp (fun v H1 z => ?_) (PZ.then (rel := Rs E) hp)⟩
    obtain ⟨as, s1, m1, _, e1, k1, js1, r1, q1⟩ := z
    rw [List.append_nil]
    exact mk_sp c0 js1 r1 hF q1
/-- o.f = v -/
theorem putN_ok : ∀ {ns : List Str} {xs : List T} {vs : List V} {r : List Str × List T} {u : T} {w : V}, putN ns xs f u = some r → ns.length = vs.length → Rs E m H xs vs → R E m H u w → ∃ ws, putF f w (ns.zip vs) = r.1.zip ws ∧ r.1.length = ws.length ∧ Rs E m H r.2 ws
  | [], [], vs, r, u, w, h, hl, rs, ru => by
    cases h
    cases (show vs = [] from rs)
    exact ⟨[w], rfl, rfl, w, [], rfl, ru, rfl⟩
  | [], _ :: _, _, _, _, _, h, _, _, _ => by cases h
  | _ :: _, [], _, _, _, _, h, _, _, _ => by cases h
  | n :: ns, x :: xs, vs, r, u, w, h, hl, ⟨v, vr, ev, r1, r2⟩, ru => by
    subst ev
    unfold putN at h
    rw [List.zip_cons_cons]
    by_cases e : n = f
    · rw [if_pos e] at h
      cases h
      refine ⟨w :: vr, ?_, by simpa using hl, w, vr, rfl, ru, r2⟩
      unfold putF
      simp [e]
    · rw [if_neg e] at h
      cases q : putN ns xs f u with
      | none => rw [q] at h; cases h
      | some r' =>
        rw [q] at h
        cases h
        obtain ⟨ws, h1, h2, h3⟩ := putN_ok (vs := vr) q (by simpa using hl) r2 ru
        refine ⟨v :: ws, ?_, by simp [h2], v, ws, rfl, r1, h3⟩
        unfold putF
        simp [e, h1]
theorem purs_put : ∀ {ns : List Str} {xs : List T} {r : List Str × List T} {u : T}, putN ns xs f u = some r → purs xs = true → pur u = true → purs r.2 = true
  | [], [], r, u, h, p, q => by cases h; simp [purs, q]
  | [], _ :: _, _, _, h, _, _ => by cases h
  | _ :: _, [], _, _, h, _, _ => by cases h
  | n :: ns, x :: xs, r, u, h, p, q => by
    unfold purs at p
    rw [Bool.and_eq_true] at p
    unfold putN at h
    by_cases e : n = f
    · rw [if_pos e] at h; cases h; unfold purs; rw [q, p.2]; rfl
    · rw [if_neg e] at h
      cases z : putN ns xs f u with
      | none => rw [z] at h; cases h
      | some r' => rw [z] at h; cases h; unfold purs; rw [p.1, purs_put z p.2 q]; rfl
theorem s_fput (c0 : Nat) {o value : Expr} {pos' : Pos} {fo fv : Fx} (cl : Cls X.K (E.ca c0)) (na : NoAttr X.K (E.ca c0) f) (ho : PE X o (tF E W fo)) (hv : PE X value (tF E W fv)) (hs : swapsWith value (some (.Attribute o f pos')) pos.line X.env = pure false := by rfl) : PS X (.Assign [.Attribute o f pos'] value pos) (tS E W (sFput c0 f fo fv)) :=
  (ps_fld ho hv hs).weak fun D σ H ⟨ρ, st, m, j, hp⟩ => by
    refine ⟨ρ, st, m, j, PZ.imp (fun w H1 z => ?_) (PZ.then (rel := R E) hp)⟩
    obtain ⟨y, s1, m1, _, e1, k1, js1, r1, q1⟩ := z
    refine ⟨ρ, s1, m1, j.step e1 k1 js1, PZ.imp (fun x H2 z => ?_) (PZ.then (rel := R E) q1)⟩
    obtain ⟨ot, s2, m2, _, e2, k2, js2, r2, q2⟩ := z
    have r1' := r1.mono e2 k2
    cases hz : hFput c0 f ot y s2 with
    | none => rw [hz] at q2; exact q2.elim
    | some s3 =>
      rw [hz] at q2
      cases ot with
      | cell i =>
        unfold hFput at hz
        dsimp only at hz
        split at hz
        · rename_i c ns xs q
          split at hz
          · rename_i hc
            obtain ⟨hc1, hc2, hc3⟩ := hc
            subst hc1
            cases hp2 : putN ns xs f y with
            | none => rw [hp2] at hz; cases hz
            | some r =>
              rw [hp2] at hz
              cases hz
              obtain ⟨a, k, u, rfl, hm, ⟨dx, vs, rfl, hl, hr⟩, lk⟩ := cell_of js2 r2 q
              cases k with
              | some _ => exact lk.elim
              | none =>
                obtain ⟨ws, h1, h2, h3⟩ := putN_ok hp2 hl hr r1'
                have wr := js2.write (o := .ins c r.1 r.2) (u := .ins (E.ca c) dx (putF f w (ns.zip vs))) hm ⟨dx, ws, by rw [h1], h2, h3⟩ (purs_put hp2 (js2.pu i _ _ q) hc2)
                refine ⟨a, E.ca c, dx, ns.zip vs, rfl, lk, cl, na, ?_, ?_⟩
                · rw [List.length_zip, ← hl, Nat.min_self]; omega
                · have z : toD D (Fv.nx σ) _ := q2 (Fv.nx σ) _ m2 .refl wr.2 wr.1 (((j.lc.mono e1 k1).mono e2 k2).mono .refl wr.2)
                  exact z
          · cases hz
        · cases hz
      | _ => cases hz
end
end Sh

set_option Elab.async false
set_option linter.all false
set_option maxRecDepth 100000
set_option maxHeartbeats 4000000
namespace Sh
open PySem PySem.Spec PyProof.Rows L2
/-! ### isinstance -/
inductive Kd where
  | non | bl | int | str | list | tuple | dict | ins (c : Nat)
  deriving DecidableEq
def kdM : MO → Kd
  | .lst _ => .list | .dK _ _ => .dict | .dT _ _ => .dict | .ins c _ _ => .ins c
def kd (s : Sto) : T → Option Kd
  | .non => some .non | .bl _ => some .bl | .int _ => some .int | .str _ => some .str
  | .tup _ => some .tuple | .tupK _ => some .tuple | .lst _ => some .list | .scr _ => some .list
  | .dK _ _ => some .dict | .dT _ _ => some .dict | .ins c _ => some (.ins c)
  | .cell i => match s[i]? with | some (false, .ins c _ _) => some (.ins c) | some (_, .ins _ _ _) => none | some (_, o) => some (kdM o) | none => none
inductive BTy where
  | str | int | bool | tuple | dict | list
def BTy.nm : BTy → String
  | .str => "str" | .int => "int" | .bool => "bool" | .tuple => "tuple" | .dict => "dict" | .list => "list"
def Kd.nm : Kd → String
  | .non => "NoneType" | .bl => "bool" | .int => "int" | .str => "str" | .list => "list" | .tuple => "tuple" | .dict => "dict" | .ins _ => ""
def kitT : Kd → BTy → Bool
  | .bl, .bool => true | .bl, .int => true | .int, .int => true | .str, .str => true | .list, .list => true | .tuple, .tuple => true | .dict, .dict => true
  | _, _ => false
theorem kitT_ok {K : PySem.W.Frag} (k : Kd) (b : BTy) (h : ∀ c, k ≠ .ins c) : PySem.W.kitOne K (.type k.nm) (.type b.nm) = some (kitT k b) := by
  cases k with
  | ins c => exact absurd rfl (h c)
  | _ => cases b <;> exact kit_ty (by decide +kernel)
/-- what isinstance asks of an own class -/
structure ClsI (K : PySem.W.Frag) (C : Addr) : Prop where
  cl : Cls K C
  ha : PySem.W.findIn K (.ref C) "__class__" = some (some (.builtin "object.__class__"))
  hn : PySem.W.specialIn K (.builtin "object.__class__") "__get__" = some (some (.builtin "getset_descriptor.__get__"))
  htk : PySem.W.takesIn K (.builtin "object.__class__") = some true
  hm : PySem.W.mroIn K C (.type "object") = some true
def tyVal (ca : Nat → Addr) : Kd → Value
  | .ins c => .ref (ca c)
  | k => .type k.nm
section
variable {E : RE} {W : XK} {m m' : Ma} {H H' : Hp} {st s s' : Sto} {X : Cx} {t : T} {v : V}
theorem kit_dict {pins : List (Addr × Obj)} {σ : L2.St} {sh : Shared} {a : Addr} (I : Inv X pins σ H sh) (h : (∃ kvs, Rd H a (.dK kvs)) ∨ ∃ kvs, Rd H a (.dT kvs)) : ∃ P : Heap → Prop, PySem.W.KitX X.K (.ref a) (.type "dict") P ∧ P sh.heap ∧ Value.ref a ≠ .builtin "__main__.__loader__#opaque" :=
  ⟨_, PySem.W.kitx_dict, (isD_at I h).1, fun z => nomatch z⟩
theorem kit_R {pins : List (Addr × Obj)} {σ : L2.St} {sh : Shared} {u : Value} {k : Kd} (hK : X.K = E.K) (I : Inv X pins σ H sh) (rx : RelV v u) (js : JS E m s H) (r : R E m H t v) (hk : kd s t = some k) (hC : ∀ c, k = .ins c → ClsI X.K (E.ca c)) :
    ∃ P : Heap → Prop, PySem.W.KitX X.K u (tyVal E.ca k) P ∧ P sh.heap ∧ u ≠ .builtin "__main__.__loader__#opaque" := by
  have li : ∀ {a : Addr} {vs : List V}, SqL E.K H a vs → ∃ P : Heap → Prop, PySem.W.KitX X.K (.ref a) (.type "list") P ∧ P sh.heap ∧ Value.ref a ≠ .builtin "__main__.__loader__#opaque" := fun {a vs} hq => by
    obtain ⟨its, _, ⟨o, n, h1, h2, _⟩, _⟩ := I.list (hK ▸ hq)
    exact ⟨_, PySem.W.kitx_list, ⟨o, h1, h2⟩, fun z => nomatch z⟩
  have tu : ∀ {a : Addr} {vs : List V}, SqT E.K H a vs → ∃ P : Heap → Prop, PySem.W.KitX X.K (.ref a) (.type "tuple") P ∧ P sh.heap ∧ Value.ref a ≠ .builtin "__main__.__loader__#opaque" := fun {a vs} hq => by
    obtain ⟨its, _, ⟨o, h1, h2, _⟩, _⟩ := I.tuple (hK ▸ hq)
    exact ⟨_, PySem.W.kitx_tuple, ⟨o, h1, h2⟩, fun z => nomatch z⟩
  have ins : ∀ {a dx : Addr} {c : Nat} {fs : List (Str × V)}, H a = some (.ins (E.ca c) dx fs) → k = .ins c → ∃ P : Heap → Prop, PySem.W.KitX X.K (.ref a) (tyVal E.ca k) P ∧ P sh.heap ∧ Value.ref a ≠ .builtin "__main__.__loader__#opaque" := fun {a dx c fs} h e => by
    have q := hC c e
    obtain ⟨P, h1, h2, h3⟩ := kit_of (x := .ref a) I rfl (.base (.ins h q.cl q.ha q.hn q.htk q.hm))
    subst e
    exact ⟨P, h1, h2, h3⟩
  cases t with
  | non => cases hk; cases (show v = _ from r); exact kit_of I rx (.base .non)
  | bl b => cases hk; cases (show v = _ from r); exact kit_of I rx (.base (.bl b))
  | int b => cases hk; cases (show v = _ from r); exact kit_of I rx (.base (.int b))
  | str b => cases hk; cases (show v = _ from r); exact kit_of I rx (.base (.str b))
  | tup xs => cases hk; obtain ⟨a, vs, rfl, hs, _⟩ := r.tupS; cases rx; exact tu hs
  | tupK xs => cases hk; obtain ⟨a, vs, rfl, hs, _⟩ := r.tupKS; cases rx; exact tu hs
  | lst xs => cases hk; obtain ⟨a, vs, rfl, hs, _⟩ := r.lstS; cases rx; exact li hs
  | scr xs => cases hk; obtain ⟨a, vs, rfl, hs, _⟩ := r.scrS; cases rx; exact li hs
  | dK ks xs => cases hk; obtain ⟨a, vs, rfl, _, hs, _⟩ := r; cases rx; exact kit_dict I (.inl ⟨_, hs⟩)
  | dT ks xs => cases hk; obtain ⟨a, vs, rfl, _, hs, _⟩ := r; cases rx; exact kit_dict I (.inr ⟨_, hs⟩)
  | ins c xs => cases hk; obtain ⟨a, dx, vs, rfl, _, hs, _⟩ := r; cases rx; exact ins hs rfl
  | cell i =>
    unfold kd at hk
    dsimp only at hk
    cases q : s[i]? with
    | none => rw [q] at hk; cases hk
    | some p =>
      obtain ⟨b, o⟩ := p
      rw [q] at hk
      obtain ⟨a, kk, u', rfl, hm, co, lk⟩ := cell_of js r q
      cases rx
      cases o with
      | lst xs =>
        obtain ⟨vs, rfl, hr⟩ := co
        cases b <;> cases hk <;> exact li (.inl lk.rd)
      | dK ks xs =>
        obtain ⟨vs, rfl, hl, hr⟩ := co
        cases b <;> cases hk <;> exact kit_dict I (.inl ⟨_, lk.rd⟩)
      | dT ks xs =>
        obtain ⟨vs, rfl, hl, hr⟩ := co
        cases b <;> cases hk <;> exact kit_dict I (.inr ⟨_, lk.rd⟩)
      | ins c ns xs =>
        obtain ⟨dx, vs, rfl, hl, hr⟩ := co
        cases b with
        | false =>
          cases hk
          cases kk with
          | none => exact ins lk rfl
          | some _ => exact lk.elim
        | true => cases hk
/-- by values -/
def rIsiF (E : RE) (W : XK) (c : V) (h : T → Sto → Z T) : List V → Hp → VK → Prop := fun xs H Q => ∃ x a st m, xs = [x, c] ∧ JS E m st H ∧ R E m H a x ∧ PZ E W (R E) m H Q (h a st)
def hIsi (b : BTy) (cs : List Nat) : T → Sto → Z T := fun t s => match kd s t with
  | some (.ins c) => if c ∈ cs then .ok (.bl false) s else .bad
  | some k => .ok (.bl (kitT k b)) s
  | none => .bad
def hIsiC (c0 : Nat) (cs : List Nat) : T → Sto → Z T := fun t s => match kd s t with
  | some (.ins c) => if c = c0 then .ok (.bl true) s else if c ∈ cs then .ok (.bl false) s else .bad
  | _ => .bad
theorem c_isi {b : BTy} {cs : List Nat} (hK : X.K = E.K) (hC : ∀ c ∈ cs, ClsI X.K (E.ca c) ∧ PySem.W.kitOne X.K (.ref (E.ca c)) (.type b.nm) = some false) : CallR X (.builtin "isinstance") (rIsiF E W (.ty b.nm) (hIsi b cs)) := by
  intro pins sh σ H xs us Q I r h
  obtain ⟨x, a, st, m, rfl, js, ra, q⟩ := h
  obtain ⟨u1, u2, rfl, r1, r2⟩ := vals2 r
  cases r2
  unfold hIsi at q
  split at q
  · rename_i c hk
    split at q
    · rename_i hc
      obtain ⟨P, Zk, p, hx⟩ := kit_R hK I r1 js ra hk (fun c' e => by cases e; exact (hC c hc).1)
      exact PySem.W.kia_one Zk I.kIn p (hC c hc).2 hx fun tk => ⟨.bl false, H, I.tok tk, rfl, PZ.ok q js rfl⟩
    · exact q.elim
  · rename_i k hn hk
    obtain ⟨P, Zk, p, hx⟩ := kit_R hK I r1 js ra hk (fun c' e => absurd e (hn c'))
    have e : tyVal E.ca k = .type k.nm := by
      cases k with
      | ins c => exact absurd rfl (hn c)
      | _ => rfl
    rw [e] at Zk
    exact PySem.W.kia_one Zk I.kIn p (kitT_ok k b hn) hx fun tk => ⟨.bl (kitT k b), H, I.tok tk, rfl, PZ.ok q js rfl⟩
  · exact q.elim
theorem c_isiC {c0 : Nat} {cs : List Nat} (hK : X.K = E.K) (h0 : ClsI X.K (E.ca c0) ∧ PySem.W.kitOne X.K (.ref (E.ca c0)) (.ref (E.ca c0)) = some true) (hC : ∀ c ∈ cs, ClsI X.K (E.ca c) ∧ PySem.W.kitOne X.K (.ref (E.ca c)) (.ref (E.ca c0)) = some false) :
    CallR X (.builtin "isinstance") (rIsiF E W (.ref (E.ca c0)) (hIsiC c0 cs)) := by
  intro pins sh σ H xs us Q I r h
  obtain ⟨x, a, st, m, rfl, js, ra, q⟩ := h
  obtain ⟨u1, u2, rfl, r1, r2⟩ := vals2 r
  cases r2
  unfold hIsiC at q
  split at q
  · rename_i c hk
    split at q
    · rename_i hc
      subst hc
      obtain ⟨P, Zk, p, hx⟩ := kit_R hK I r1 js ra hk (fun c' e => by cases e; exact h0.1)
      exact PySem.W.kia_one Zk I.kIn p h0.2 hx fun tk => ⟨.bl true, H, I.tok tk, rfl, PZ.ok q js rfl⟩
    · split at q
      · rename_i hc
        obtain ⟨P, Zk, p, hx⟩ := kit_R hK I r1 js ra hk (fun c' e => by cases e; exact (hC c hc).1)
        exact PySem.W.kia_one Zk I.kIn p (hC c hc).2 hx fun tk => ⟨.bl false, H, I.tok tk, rfl, PZ.ok q js rfl⟩
      · exact q.elim
  · exact q.elim
/-- isinstance(e, T), T built in -/
theorem x_isi (b : BTy) (cs : List Nat) {x : Expr} {T' : Str} {p pos pos' : Pos} {fx : Fx} (hK : X.K = E.K) (hC : ∀ c ∈ cs, ClsI X.K (E.ca c) ∧ PySem.W.kitOne X.K (.ref (E.ca c)) (.type b.nm) = some false) (hm : X.mg "isinstance" = none) (hmT : X.mg T' = none) (hT : bootBuiltins T' = some (.type b.nm)) (hx : PE X x (tF E W fx))
    (hg : Gl X "isinstance" := by rfl) (hgT : Gl X T' := by rfl) (hnT : T' ≠ "__name__" := by decide) (hdT : (T' == ("__debug__" : Str)) = false := by decide)
    (he : starEach [x, .Name T' pos'] X.env = (false, eval x X.env) :: starEach [.Name T' pos'] X.env := by rfl) (he2 : starEach [.Name T' pos'] X.env = (false, eval (.Name T' pos') X.env) :: starEach [] X.env := by rfl) (hpl : (backTo pos (starEach [.Name T' pos'] X.env)).any (·.1) = false := by rfl) :
    PE X (.Call (.Name "isinstance" p) [x, .Name T' pos'] [] pos) (tF E W (v1 (hIsi b cs) fx)) :=
  (pe_callB (c_isi hK hC) hg hm (by decide +kernel) (pa_cons hx (pa_cons (pe_bltn (v := .ty b.nm) hgT hmT hT rfl hnT hdT) pa_nil he2) he) (by decide) (by decide) he hpl).weak fun σ H Q ⟨ρ, st, m, j, hp⟩ => by
    refine ⟨ρ, st, m, j, PZ.imp (fun v H1 z => ?_) (PZ.then (rel := R E) hp)⟩
    obtain ⟨y, s1, m1, _, e1, k1, js1, r1, q1⟩ := z
    exact ⟨v, y, s1, m1, rfl, js1, r1, q1⟩
/-- isinstance(e, C), C an own class -/
theorem x_isiC (c0 : Nat) (cs : List Nat) {x : Expr} {T' : Str} {p pos pos' : Pos} {fx : Fx} (hK : X.K = E.K) (h0 : ClsI X.K (E.ca c0) ∧ PySem.W.kitOne X.K (.ref (E.ca c0)) (.ref (E.ca c0)) = some true) (hC : ∀ c ∈ cs, ClsI X.K (E.ca c) ∧ PySem.W.kitOne X.K (.ref (E.ca c)) (.ref (E.ca c0)) = some false)
    (hm : X.mg "isinstance" = none) (hmT : X.mg T' = some (.ref (E.ca c0))) (hx : PE X x (tF E W fx))
    (hg : Gl X "isinstance" := by rfl) (hgT : Gl X T' := by rfl) (hdT : (T' == ("__debug__" : Str)) = false := by decide)
    (he : starEach [x, .Name T' pos'] X.env = (false, eval x X.env) :: starEach [.Name T' pos'] X.env := by rfl) (he2 : starEach [.Name T' pos'] X.env = (false, eval (.Name T' pos') X.env) :: starEach [] X.env := by rfl) (hpl : (backTo pos (starEach [.Name T' pos'] X.env)).any (·.1) = false := by rfl) :
    PE X (.Call (.Name "isinstance" p) [x, .Name T' pos'] [] pos) (tF E W (v1 (hIsiC c0 cs) fx)) :=
  (pe_callB (c_isiC hK h0 hC) hg hm (by decide +kernel) (pa_cons hx (pa_cons (pe_glob (v := .ref (E.ca c0)) hgT hmT rfl hdT) pa_nil he2) he) (by decide) (by decide) he hpl).weak fun σ H Q ⟨ρ, st, m, j, hp⟩ => by
    refine ⟨ρ, st, m, j, PZ.imp (fun v H1 z => ?_) (PZ.then (rel := R E) hp)⟩
    obtain ⟨y, s1, m1, _, e1, k1, js1, r1, q1⟩ := z
    exact ⟨v, y, s1, m1, rfl, js1, r1, q1⟩

/-! ### built-ins by name -/
theorem x_blt {id : String} {x : Str} {e : Expr} {es : List Expr} {p pos : Pos} {fs : Fa} {h : List T → Sto → Z T} (hc : CallR X (.builtin id) (rFc E W h)) (hm : X.mg x = none) (hv : bootBuiltins x = some (.builtin id)) (ha : PA X (e :: es) (tFs E W fs)) (hg : Gl X x := by rfl) (hn : x ≠ "__name__" := by decide) (hdb : (x == ("__debug__" : Str)) = false := by decide)
    (he : starEach (e :: es) X.env = (false, eval e X.env) :: starEach es X.env := by rfl) (hpl : (backTo pos (starEach es X.env)).any (·.1) = false := by rfl) : PE X (.Call (.Name x p) (e :: es) [] pos) (tF E W (vA h fs)) :=
  (pe_callB hc hg hm hv ha hn hdb he hpl).weak fun σ H Q ⟨ρ, st, m, j, hp⟩ => by
    refine ⟨ρ, st, m, j, PZ.imp (fun v H1 z => ?_) (PZ.then (rel := Rs E) hp)⟩
    obtain ⟨y, s1, m1, _, e1, k1, js1, r1, q1⟩ := z
    exact ⟨y, s1, m1, js1, r1, q1⟩
theorem x_blty {id : String} {x : Str} {e : Expr} {es : List Expr} {p pos : Pos} {fs : Fa} {h : List T → Sto → Z T} (hc : CallR X (.type id) (rFc E W h)) (hm : X.mg x = none) (hv : bootBuiltins x = some (.type id)) (ha : PA X (e :: es) (tFs E W fs)) (hg : Gl X x := by rfl) (hn : x ≠ "__name__" := by decide) (hdb : (x == ("__debug__" : Str)) = false := by decide)
    (he : starEach (e :: es) X.env = (false, eval e X.env) :: starEach es X.env := by rfl) (hpl : (backTo pos (starEach es X.env)).any (·.1) = false := by rfl) : PE X (.Call (.Name x p) (e :: es) [] pos) (tF E W (vA h fs)) :=
  (pe_callTy hc hg hm hv ha hn hdb he hpl).weak fun σ H Q ⟨ρ, st, m, j, hp⟩ => by
    refine ⟨ρ, st, m, j, PZ.imp (fun v H1 z => ?_) (PZ.then (rel := Rs E) hp)⟩
    obtain ⟨y, s1, m1, _, e1, k1, js1, r1, q1⟩ := z
    exact ⟨y, s1, m1, js1, r1, q1⟩
theorem vals_one {ts : List T} {xs : List V} {x : T} (h : ts = [x]) (r : Rs E m H ts xs) : ∃ v, xs = [v] ∧ R E m H x v := by
  subst h
  obtain ⟨v, w, rfl, r1, r2⟩ := r
  cases (show w = [] from r2)
  exact ⟨v, rfl, r1⟩
/-- len -/
def hLen : List T → Sto → Z T := fun ts s => match ts with
  | [x] => match asL s x with
    | some ys => .ok (.int ys.length) s
    | none => match asT x with
      | some ys => .ok (.int ys.length) s
      | none => match x with
        | .str z => if z.length ≤ lim then .ok (.int z.length) s else .bad
        | x => match asDK s x with
          | some (ks, _) => .ok (.int ks.length) s
          | none => match asDT s x with
            | some (ks, _) => .ok (.int ks.length) s
            | none => .bad
  | _ => .bad
theorem d_lenT {pins : List (Addr × Obj)} {σ : L2.St} {sh : Shared} {a : Addr} {kvs : List (List Key × V)} {A : Around} {Ex : Value → Shared → Prop} {Q : Value → Shared → Prop} (I : Inv X pins σ H sh) (e : Rd H a (.dT kvs)) (h : ∀ t s', Inv X pins σ H s' → Q (.int kvs.length t) s') : wpAny (model X.prog X.w) A (call (.builtin "len") [.ref a]) Q Ex sh := by
  obtain ⟨z, hd, ys, rel, dd⟩ := dt_rd I.hok e
  have hl : kvs.length = ys.length := Paired.length rel
  refine PySem.call_len_dictH hd dd (by rw [← hl]; rw [sizeLine_eq] at z; omega) ?_
  rw [← hl]
  exact h _ _ ((I.tok _).tok _)
theorem c_len (hK : X.K = E.K) : CallR X (.builtin "len") (rFc E W hLen) := by
  intro pins sh σ H xs us Q I r h
  obtain ⟨as, st, m, js, ra, q⟩ := h
  unfold hLen at q
  split at q
  case h_2 => exact q.elim
  rename_i x
  obtain ⟨v, rfl, rv⟩ := vals_one rfl ra
  cases hl : asL st x with
  | some ys =>
    rw [hl] at q
    obtain ⟨a, vs, rfl, sq, rs⟩ := asL_ok hl js rv
    exact call_len_seq pins sh σ H _ us Q I r ⟨a, vs, rfl, .inl (hK ▸ sq), by rw [← rs.length]; exact PZ.ok q js rfl⟩
  | none =>
    rw [hl] at q
    dsimp only at q
    cases ht : asT x with
    | some ys =>
      rw [ht] at q
      obtain ⟨a, vs, rfl, sq, rs⟩ := asT_ok ht rv
      exact call_len_seq pins sh σ H _ us Q I r ⟨a, vs, rfl, .inr (hK ▸ sq), by rw [← rs.length]; exact PZ.ok q js rfl⟩
    | none =>
      rw [ht] at q
      dsimp only at q
      split at q
      · rename_i z
        split at q
        · rename_i hz
          cases (show v = _ from rv)
          exact call_len_str pins sh σ H _ us Q I r ⟨z, rfl, lim_line hz, PZ.ok q js rfl⟩
        · exact q.elim
      · cases hd : asDK st x with
        | some p =>
          obtain ⟨ks, ys⟩ := p
          rw [hd] at q
          obtain ⟨a, vs, rfl, hr, hl2, rs⟩ := asDK_ok hd js rv
          obtain ⟨u, rfl, ru⟩ := vals1 r
          cases ru
          refine d_len I hr fun t s' I' => ⟨.int (ks.zip vs).length, H, I', ⟨t, rfl⟩, ?_⟩
          rw [List.length_zip, ← hl2, Nat.min_self]
          exact PZ.ok q js rfl
        | none =>
          rw [hd] at q
          dsimp only at q
          cases hd2 : asDT st x with
          | some p =>
            obtain ⟨ks, ys⟩ := p
            rw [hd2] at q
            obtain ⟨a, vs, rfl, hr, hl2, rs⟩ := asDT_ok hd2 js rv
            obtain ⟨u, rfl, ru⟩ := vals1 r
            cases ru
            refine d_lenT I hr fun t s' I' => ⟨.int (ks.zip vs).length, H, I', ⟨t, rfl⟩, ?_⟩
            rw [List.length_zip, ← hl2, Nat.min_self]
            exact PZ.ok q js rfl
          | none => rw [hd2] at q; exact q.elim
/-- all, any of a list of bools -/
def bools : List T → Option (List Bool)
  | [] => some []
  | .bl b :: xs => (bools xs).map (b :: ·)
  | _ :: _ => none
theorem bools_ok : ∀ {ts : List T} {bs : List Bool} {vs : List V}, bools ts = some bs → Rs E m H ts vs → vs = bs.map V.bl
  | [], _, _, h, r => by cases h; exact r
  | t :: ts, bs, vs, h, r => by
    obtain ⟨v, w, rfl, r1, r2⟩ := r
    cases t with
    | bl b =>
      unfold bools at h
      obtain ⟨cs, h1, rfl⟩ := Option.map_eq_some_iff.mp h
      rw [bools_ok h1 r2, (show v = V.bl b from r1)]
      rfl
    | _ => cases h
def hAll (p : List Bool → Bool) : List T → Sto → Z T := fun ts s => match ts with
  | [x] => match asL s x with
    | some ys => match bools ys with | some bs => .ok (.bl (p bs)) s | none => .bad
    | none => .bad
  | _ => .bad
theorem c_allOf {id : String} {p : List Bool → Bool} (hK : X.K = E.K) (hc : CallR X (.builtin id) (fun vs H Q => ∃ (a : Addr) (bs : List Bool), vs = [V.ref a] ∧ SqL X.K H a (bs.map V.bl) ∧ Q (.bl (p bs)) H)) : CallR X (.builtin id) (rFc E W (hAll p)) := by
  intro pins sh σ H xs us Q I r h
  obtain ⟨as, st, m, js, ra, q⟩ := h
  unfold hAll at q
  split at q
  case h_2 => exact q.elim
  rename_i x
  obtain ⟨v, rfl, rv⟩ := vals_one rfl ra
  cases hl : asL st x with
  | none => rw [hl] at q; exact q.elim
  | some ys =>
    rw [hl] at q
    dsimp only at q
    obtain ⟨a, vs, rfl, sq, rs⟩ := asL_ok hl js rv
    cases hb : bools ys with
    | none => rw [hb] at q; exact q.elim
    | some bs =>
      rw [hb] at q
      cases bools_ok hb rs
      exact hc pins sh σ H _ us Q I r ⟨a, bs, rfl, hK ▸ sq, PZ.ok q js rfl⟩
theorem c_all (hK : X.K = E.K) (hc : X.calm = true) : CallR X (.builtin "all") (rFc E W (hAll fun bs => bs.all id)) := c_allOf hK (cr_all hc)
theorem c_any (hK : X.K = E.K) (hc : X.calm = true) : CallR X (.builtin "any") (rFc E W (hAll fun bs => bs.any id)) := c_allOf hK (cr_any hc)
/-- abs -/
def hAbs : List T → Sto → Z T := fun ts s => match ts with | [.int i] => .ok (.int (if i < 0 then -i else i)) s | _ => .bad
theorem c_abs : CallR X (.builtin "abs") (rFc E W hAbs) := by
  intro pins sh σ H xs us Q I r h
  obtain ⟨as, st, m, js, ra, q⟩ := h
  unfold hAbs at q
  split at q
  · obtain ⟨v, rfl, rv⟩ := vals_one rfl ra
    cases (show v = _ from rv)
    exact call_abs pins sh σ H _ us Q I r ⟨_, rfl, PZ.ok q js rfl⟩
  · exact q.elim
/-- list(xs), list(d); tuple(xs) -/
def kT : Key → T
  | .inl i => .int i
  | .inr x => .str x
def hList : List T → Sto → Z T := fun ts s => match ts with
  | [x] => match (match asL s x with | some ys => some ys | none => asT x) with
    | some ys => .ok (.lst ys) s
    | none => .bad
  | _ => .bad
theorem c_list (hK : X.K = E.K) : CallR X (.type "list") (rFc E W hList) := by
  intro pins sh σ H xs us Q I r h
  obtain ⟨as, st, m, js, ra, q⟩ := h
  unfold hList at q
  split at q
  case h_2 => exact q.elim
  rename_i x
  obtain ⟨v, rfl, rv⟩ := vals_one rfl ra
  have fin : ∀ {a : Addr} {ys : List T} {vs : List V}, v = .ref a → (SqL X.K H a vs ∨ SqT X.K H a vs) → Rs E m H ys vs → PZ E W (R E) m H Q (.ok (.lst ys) st) → wpAny (model X.prog X.w) X.A (call (.type "list") us) (EP X pins σ Q) X.xe sh := fun {a ys vs} ev sq rs q =>
    call_list_of pins sh σ H _ us Q I r ⟨a, vs, by rw [ev], sq, fun l nl => PZ.new q js nl ⟨l, vs, rfl, js.fresh nl, upd_same, rs.mono .refl (keep_new nl)⟩⟩
  cases hl : asL st x with
  | some ys =>
    rw [hl] at q
    obtain ⟨a, vs, ev, sq, rs⟩ := asL_ok hl js rv
    exact fin ev (.inl (hK ▸ sq)) rs q
  | none =>
    rw [hl] at q
    dsimp only at q
    cases ht : asT x with
    | none => rw [ht] at q; exact q.elim
    | some ys =>
      rw [ht] at q
      obtain ⟨a, vs, ev, sq, rs⟩ := asT_ok ht rv
      exact fin ev (.inr (hK ▸ sq)) rs q
def hTuple : List T → Sto → Z T := fun ts s => match ts with
  | [x] => match asL s x with
    | some ys => .ok (.tup ys) s
    | none => match asT x with
      | some _ => .ok x s
      | none => .bad
  | _ => .bad
theorem c_tuple (hK : X.K = E.K) : CallR X (.type "tuple") (rFc E W hTuple) := by
  intro pins sh σ H xs us Q I r h
  obtain ⟨as, st, m, js, ra, q⟩ := h
  unfold hTuple at q
  split at q
  case h_2 => exact q.elim
  rename_i x
  obtain ⟨v, rfl, rv⟩ := vals_one rfl ra
  cases hl : asL st x with
  | some ys =>
    rw [hl] at q
    obtain ⟨a, vs, rfl, sq, rs⟩ := asL_ok hl js rv
    exact call_tuple_of pins sh σ H _ us Q I r ⟨a, vs, rfl, .inl ⟨hK ▸ sq, fun l nl => PZ.new q js nl ⟨l, vs, rfl, js.fresh nl, upd_same, rs.mono .refl (keep_new nl)⟩⟩⟩
  | none =>
    rw [hl] at q
    dsimp only at q
    cases ht : asT x with
    | none => rw [ht] at q; exact q.elim
    | some ys =>
      rw [ht] at q
      have rv0 := rv
      obtain ⟨a, vs, rfl, sq, rs⟩ := asT_ok ht rv
      exact call_tuple_of pins sh σ H _ us Q I r ⟨a, vs, rfl, .inr ⟨hK ▸ sq, PZ.ok q js rv0⟩⟩
end
end Sh

set_option Elab.async false
set_option linter.all false
set_option maxRecDepth 100000
set_option maxHeartbeats 4000000
namespace Sh
open PySem PySem.Spec PyProof.Rows L2
/-! ### slices -/
abbrev Fo := Lo → Sto → Z (Option Int)
def oNone : Fo := fun _ s => .ok none s
def oSome (f : Fx) : Fo := fun ρ st => (f ρ st).then fun t s => match t with | .int i => .ok (some i) s | _ => .bad
def cutT (xs : List T) (lo hi : Option Int) : List T := (xs.drop (HT.sIx xs.length 0 lo)).take (HT.sIx xs.length xs.length hi - HT.sIx xs.length 0 lo)
def vSl (f : Fx) (fl fh : Fo) : Fx := fun ρ st => (f ρ st).then fun t s => (fl ρ s).then fun lo s => (fh ρ s).then fun hi s => match asL s t with
  | some xs => .ok (.lst (cutT xs lo hi)) s
  | none => match asT t with
    | some xs => if HT.sIx xs.length 0 lo = 0 ∧ HT.sIx xs.length xs.length hi = xs.length then .bad else .ok (.tup (cutT xs lo hi)) s
    | none => .bad
def vRev (f : Fx) : Fx := fun ρ st => (f ρ st).then fun t s => match asL s t with | some xs => .ok (.lst xs.reverse) s | none => .bad
/-- {} -/
def vNewK : Fx := fun _ s => .ok (.dK [] []) s
def vNewT : Fx := fun _ s => .ok (.dT [] []) s
def vNewKc : Fx := fun _ s => .ok (.cell s.length) (s ++ [(false, .dK [] [])])
def vNewTc : Fx := fun _ s => .ok (.cell s.length) (s ++ [(false, .dT [] [])])
def isD (s : Sto) (d : T) : Bool := (asDK s d).isSome || (asDT s d).isSome
def vGet1 (fo fe : Fx) : Fx := fun ρ st => (fo ρ st).then fun d s => if isD s d = true then (fe ρ s).then fun k s => match dget s d k with | some o => .ok (o.getD .non) s | none => .bad else .bad
def vGet2 (fo fe fx : Fx) : Fx := fun ρ st => (fo ρ st).then fun d s => if isD s d = true then (fe ρ s).then fun k s => (fx ρ s).then fun x s => match dget s d k with | some o => .ok (o.getD x) s | none => .bad else .bad
def kput {κ : Type} [DecidableEq κ] (ks : List κ) (xs : List T) (k : κ) (x : T) : List κ × List T := if k ∈ ks then (ks, List.zipWith (fun k' y => if k' = k then x else y) ks xs) else (ks ++ [k], xs ++ [x])
/-- o[i] = v -/
def hPut (o i v : T) (s : Sto) : Option Sto := match o with
  | .cell c => if pur v = true then match s[c]? with
    | some (false, .dK ks xs) => match key i with | some k => if ks.length < lim then some (s.set c (false, .dK (kput ks xs k v).1 (kput ks xs k v).2)) else none | none => none
    | some (false, .dT ks xs) => match keyT i with | some k => if ks.length < lim then some (s.set c (false, .dT (kput ks xs k v).1 (kput ks xs k v).2)) else none | none => none
    | some (false, .lst xs) => match i with
      | .int n => match ixN xs.length n with
        | some j => some (s.set c (false, .lst (xs.set j v)))
        | none => none
      | _ => none
    | _ => none
    else none
  | _ => none
def sPut (fo fi fv : Fx) : Fs := fun ρ st => (fv ρ st).then fun v s => (fo ρ s).then fun o s => (fi ρ s).then fun i s => match hPut o i v s with | some s' => .ok (.nx ρ) s' | none => .bad
section
variable {E : RE} {W : XK} {m m' : Ma} {H H' : Hp} {st s s' : Sto} {X : Cx} {t : T} {v : V} {e : Expr} {fe : Fx} {pos : Pos}
def tFo (E : RE) (W : XK) (f : Fo) : TO := fun σ H Q => ∃ ρ st m, J E m ρ st σ H ∧ PZ E W (fun _ _ a b => a = b) m H Q (f ρ st)
theorem _root_.L2.PO.weak {e : Option Expr} {t t' : TO} (h : PO X e t) (w : ∀ σ H Q, t' σ H Q → t σ H Q) : PO X e t' := ⟨fun pins s σ H Q I q => h.run pins s σ H Q I (w σ H Q q)⟩
theorem o_none : PO X none (tFo E W oNone) := po_none.weak fun σ H Q ⟨ρ, st, m, j, hp⟩ => PZ.ok hp j.sto rfl
theorem o_some (he : PE X e (tF E W fe)) : PO X (some e) (tFo E W (oSome fe)) := (po_some he).weak fun σ H Q ⟨ρ, st, m, j, hp⟩ => by
  refine ⟨ρ, st, m, j, PZ.imp (fun v H1 z => ?_) (PZ.then (rel := R E) hp)⟩
  obtain ⟨x, s1, m1, _, e1, k1, js1, r1, q1⟩ := z
  cases x with
  | int i => exact ⟨i, r1, PZ.ok q1 js1 rfl⟩
  | _ => exact q1.elim
theorem Rs.drop (n : Nat) : ∀ {ts : List T} {vs : List V}, Rs E m H ts vs → Rs E m H (ts.drop n) (vs.drop n) := by
  induction n with
  | zero => intro ts vs r; exact r
  | succ n ih =>
    intro ts vs r
    cases ts with
    | nil => cases (show vs = [] from r); exact r
    | cons t ts => obtain ⟨v, w, rfl, _, r2⟩ := r; exact ih r2
theorem Rs.takeN (n : Nat) : ∀ {ts : List T} {vs : List V}, Rs E m H ts vs → Rs E m H (ts.take n) (vs.take n) := by
  induction n with
  | zero => intro ts vs _; simp only [List.take_zero]; rfl
  | succ n ih =>
    intro ts vs r
    cases ts with
    | nil => cases (show vs = [] from r); exact r
    | cons t ts => obtain ⟨v, w, rfl, r1, r2⟩ := r; exact ⟨v, _, rfl, r1, ih r2⟩
theorem cut_ok {ts : List T} {vs : List V} (r : Rs E m H ts vs) (lo hi : Option Int) : Rs E m H (cutT ts lo hi) (cutV vs lo hi) := by
  unfold cutT cutV
  rw [r.length]
  exact (r.drop _).takeN _
theorem Rs.rev {ts : List T} {vs : List V} (r : Rs E m H ts vs) : Rs E m H ts.reverse vs.reverse := by
  induction ts generalizing vs with
  | nil => cases (show vs = [] from r); exact r
  | cons t ts ih =>
    obtain ⟨v, w, rfl, r1, r2⟩ := r
    rw [List.reverse_cons, List.reverse_cons]
    exact (ih r2).append ⟨v, [], rfl, r1, rfl⟩
theorem x_slice {lo hi : Option Expr} {p2 : Pos} {fl fh : Fo} (hK : X.K = E.K) (he : PE X e (tF E W fe)) (hl : PO X lo (tFo E W fl)) (hh : PO X hi (tFo E W fh)) : PE X (.Subscript e (.Slice lo hi none p2) pos) (tF E W (vSl fe fl fh)) :=
  (pe_slice (sl_list.or sl_tup) he hl hh).weak fun σ H Q ⟨ρ, st, m, j, hp⟩ => by
    refine ⟨ρ, st, m, j, PZ.imp (fun v H1 z => ?_) (PZ.then (rel := R E) hp)⟩
    obtain ⟨x, s1, m1, _, e1, k1, js1, r1, q1⟩ := z
    have j1 := j.step e1 k1 js1
    refine ⟨ρ, s1, m1, j1, PZ.imp (fun lo H2 z => ?_) (PZ.then (rel := fun _ _ a b => a = b) q1)⟩
    obtain ⟨lo', s2, m2, _, e2, k2, js2, r2, q2⟩ := z
    subst r2
    have j2 := j1.step e2 k2 js2
    refine ⟨ρ, s2, m2, j2, PZ.imp (fun hi H3 z => ?_) (PZ.then (rel := fun _ _ a b => a = b) q2)⟩
    obtain ⟨hi', s3, m3, _, e3, k3, js3, r3, q3⟩ := z
    subst r3
    have rx := (r1.mono e2 k2).mono e3 k3
    cases ha : asL s3 x with
    | some ts =>
      rw [ha] at q3
      obtain ⟨a, vs, rfl, sq, rs⟩ := asL_ok ha js3 rx
      exact .inl ⟨a, vs, rfl, hK ▸ sq, fun p np => PZ.new q3 js3 np ⟨p, _, rfl, js3.fresh np, upd_same, (cut_ok rs lo' hi').mono .refl (keep_new np)⟩⟩
    | none =>
      rw [ha] at q3
      dsimp only at q3
      cases ht : asT x with
      | none => rw [ht] at q3; exact q3.elim
      | some ts =>
        rw [ht] at q3
        dsimp only at q3
        obtain ⟨a, vs, rfl, sq, rs⟩ := asT_ok ht rx
        by_cases hw : HT.sIx ts.length 0 lo' = 0 ∧ HT.sIx ts.length ts.length hi' = ts.length
        · rw [if_pos hw] at q3; exact q3.elim
        · rw [if_neg hw] at q3
          exact .inr ⟨a, vs, rfl, hK ▸ sq, by rw [← rs.length]; exact hw, fun p np => PZ.new q3 js3 np ⟨p, _, rfl, js3.fresh np, upd_same, (cut_ok rs lo' hi').mono .refl (keep_new np)⟩⟩
theorem x_rev {k : Nat} {p1 p2 p3 : Pos} (hK : X.K = E.K) (he : PE X e (tF E W fe)) : PE X (.Subscript e (.Slice none none (some (.UnaryOp .USub (.Constant (.int 1) k p1) p2)) p3) pos) (tF E W (vRev fe)) := (pe_revL he).weak fun σ H Q ⟨ρ, st, m, j, hp⟩ => by
  refine ⟨ρ, st, m, j, PZ.imp (fun v H1 z => ?_) (PZ.then (rel := R E) hp)⟩
  obtain ⟨x, s1, m1, _, e1, k1, js1, r1, q1⟩ := z
  cases ha : asL s1 x with
  | none => rw [ha] at q1; exact q1.elim
  | some ts =>
    rw [ha] at q1
    obtain ⟨a, vs, rfl, sq, rs⟩ := asL_ok ha js1 r1
    exact ⟨a, vs, rfl, hK ▸ sq, fun p np => PZ.new q1 js1 np ⟨p, _, rfl, js1.fresh np, upd_same, rs.rev.mono .refl (keep_new np)⟩⟩

/-! ### dicts made, read, stored -/
theorem x_newK : PE X (.Dict [] [] pos) (tF E W vNewK) := pe_dnewK.weak fun σ H Q ⟨ρ, st, m, j, hp⟩ p np => PZ.new hp j.sto np ⟨p, [], rfl, j.sto.fresh np, .inl upd_same, rfl, rfl⟩
theorem x_newT : PE X (.Dict [] [] pos) (tF E W vNewT) := pe_dnewT.weak fun σ H Q ⟨ρ, st, m, j, hp⟩ p np => PZ.new hp j.sto np ⟨p, [], rfl, j.sto.fresh np, .inl upd_same, rfl, rfl⟩
theorem x_newKc : PE X (.Dict [] [] pos) (tF E W vNewKc) := pe_dnewK.weak fun σ H Q ⟨ρ, st, m, j, hp⟩ p np => PZ.newc hp j.sto np ⟨[], rfl, rfl, rfl⟩ rfl (cell_new j.sto)
theorem x_newTc : PE X (.Dict [] [] pos) (tF E W vNewTc) := pe_dnewT.weak fun σ H Q ⟨ρ, st, m, j, hp⟩ p np => PZ.newc hp j.sto np ⟨[], rfl, rfl, rfl⟩ rfl (cell_new j.sto)
theorem isD_ok {d : T} {dv : V} (h : isD s d = true) (js : JS E m s H) (rd : R E m H d dv) : ∃ a, dv = .ref a ∧ IsD H a := by
  unfold isD at h
  cases hd : asDK s d with
  | some p =>
    obtain ⟨a, vs, rfl, hr, _, _⟩ := asDK_ok (ks := p.1) (xs := p.2) hd js rd
    exact ⟨a, rfl, .inl ⟨_, hr⟩⟩
  | none =>
    cases hd2 : asDT s d with
    | some p =>
      obtain ⟨a, vs, rfl, hr, _, _⟩ := asDT_ok (ks := p.1) (xs := p.2) hd2 js rd
      exact ⟨a, rfl, .inr ⟨_, hr⟩⟩
    | none => rw [hd, hd2] at h; cases h
theorem isD_keep {a : Addr} (na : a ∉ m.ad) (k : Keep m H H') (h : IsD H a) : IsD H' a := h.elim (fun ⟨x, y⟩ => .inl ⟨x, k.rd na y⟩) fun ⟨x, y⟩ => .inr ⟨x, k.rd na y⟩
theorem x_get1 {o : Expr} {apos : Pos} {fo : Fx} (hu : X.A.units + 65 < cLine) (ho : PE X o (tF E W fo)) (he : PE X e (tF E W fe)) (mm : M1 X o "get" apos e pos := by exact ⟨rfl, rfl, rfl, rfl⟩) :
    PE X (.Call (.Attribute o "get" apos) [e] [] pos) (tF E W (vGet1 fo fe)) := (pe_dget1 (by omega) ho he mm).weak fun σ H Q ⟨ρ, st, m, j, hp⟩ => by
  refine ⟨ρ, st, m, j, PZ.imp (fun v H1 z => ?_) (PZ.then (rel := R E) hp)⟩
  obtain ⟨x, s1, m1, _, e1, k1, js1, r1, q1⟩ := z
  by_cases hi : isD s1 x = true
  · rw [if_pos hi] at q1
    obtain ⟨a, rfl, isd⟩ := isD_ok hi js1 r1
    refine ⟨a, rfl, isd, ρ, s1, m1, j.step e1 k1 js1, PZ.imp (fun kv H2 z => ?_) (PZ.then (rel := R E) q1)⟩
    obtain ⟨y, s2, m2, _, e2, k2, js2, r2, q2⟩ := z
    cases hd : dget s2 x y with
    | none => rw [hd] at q2; exact q2.elim
    | some o =>
      rw [hd] at q2
      obtain ⟨a', ea, g⟩ := dget_ok hd js2 (r1.mono e2 k2) r2
      cases ea
      cases o with
      | none => exact ⟨none, g, PZ.ok q2 js2 rfl⟩
      | some u =>
        obtain ⟨w, g, ru⟩ := g
        exact ⟨some w, g, PZ.ok q2 js2 ru⟩
  · rw [if_neg hi] at q1; exact q1.elim
theorem x_get2 {o f : Expr} {apos : Pos} {fo fx : Fx} (hu : X.A.units + 65 < cLine) (ho : PE X o (tF E W fo)) (he : PE X e (tF E W fe)) (hf : PE X f (tF E W fx)) (mm : M2 X o "get" apos e f pos := by exact ⟨rfl, rfl, rfl, rfl⟩) :
    PE X (.Call (.Attribute o "get" apos) [e, f] [] pos) (tF E W (vGet2 fo fe fx)) := (pe_dget2 (by omega) ho he hf mm).weak fun σ H Q ⟨ρ, st, m, j, hp⟩ => by
  refine ⟨ρ, st, m, j, PZ.imp (fun v H1 z => ?_) (PZ.then (rel := R E) hp)⟩
  obtain ⟨x, s1, m1, _, e1, k1, js1, r1, q1⟩ := z
  by_cases hi : isD s1 x = true
  · rw [if_pos hi] at q1
    obtain ⟨a, rfl, isd⟩ := isD_ok hi js1 r1
    have j1 := j.step e1 k1 js1
    refine ⟨a, rfl, isd, ρ, s1, m1, j1, PZ.imp (fun kv H2 z => ?_) (PZ.then (rel := R E) q1)⟩
    obtain ⟨y, s2, m2, _, e2, k2, js2, r2, q2⟩ := z
    refine ⟨ρ, s2, m2, j1.step e2 k2 js2, PZ.imp (fun zv H3 z => ?_) (PZ.then (rel := R E) q2)⟩
    obtain ⟨u, s3, m3, _, e3, k3, js3, r3, q3⟩ := z
    cases hd : dget s3 x y with
    | none => rw [hd] at q3; exact q3.elim
    | some o =>
      rw [hd] at q3
      obtain ⟨a', ea, g⟩ := dget_ok hd js3 ((r1.mono e2 k2).mono e3 k3) (r2.mono e3 k3)
      cases ea
      cases o with
      | none => exact ⟨none, g, PZ.ok q3 js3 r3⟩
      | some u =>
        obtain ⟨w, g, ru⟩ := g
        exact ⟨some w, g, PZ.ok q3 js3 ru⟩
  · rw [if_neg hi] at q1; exact q1.elim
theorem kput_ok {κ : Type} [DecidableEq κ] {ks : List κ} {xs : List T} {vs : List V} {k : κ} {x : T} {v : V} (hl : ks.length = vs.length) (r : Rs E m H xs vs) (rx : R E m H x v) :
    ∃ ws, putK (ks.zip vs) k v = (kput ks xs k x).1.zip ws ∧ (kput ks xs k x).1.length = ws.length ∧ Rs E m H (kput ks xs k x).2 ws := by
  have hany : ((ks.zip vs).any fun kv => decide (kv.1 = k)) = decide (k ∈ ks) := by
    clear r
    induction ks generalizing vs with
    | nil => simp
    | cons a ks ih =>
      cases vs with
      | nil => simp at hl
      | cons b vs =>
        rw [List.zip_cons_cons, List.any_cons, ih (by simpa using hl)]
        by_cases e : a = k
        · subst e; simp
        · have e2 : ¬ k = a := fun z => e z.symm
          simp [e, e2]
  unfold putK kput
  rw [hany]
  by_cases hk : k ∈ ks
  · rw [if_pos (decide_eq_true hk), if_pos hk]
    refine ⟨List.zipWith (fun k' y => if k' = k then v else y) ks vs, ?_, by rw [List.length_zipWith, ← hl, Nat.min_self], ?_⟩
    · clear hany hk r
      induction ks generalizing vs with
      | nil => simp
      | cons a ks ih =>
        cases vs with
        | nil => simp at hl
        | cons b vs =>
          rw [List.zip_cons_cons, List.map_cons, ih (by simpa using hl), List.zipWith_cons_cons, List.zip_cons_cons]
          by_cases e : a = k
          · simp [e]
          · simp [e]
    · clear hany hk
      induction ks generalizing vs xs with
      | nil => cases xs <;> exact rfl
      | cons a ks ih =>
        cases vs with
        | nil => simp at hl
        | cons b vs =>
          cases xs with
          | nil => cases (show _ = [] from r)
          | cons y xs =>
            obtain ⟨b', w, e, r1, r2⟩ := r
            cases e
            rw [List.zipWith_cons_cons, List.zipWith_cons_cons]
            refine ⟨_, _, rfl, ?_, ih (by simpa using hl) r2⟩
            by_cases e : a = k
            · rw [if_pos e, if_pos e]; exact rx
            · rw [if_neg e, if_neg e]; exact r1
  · rw [if_neg (by simpa using hk), if_neg hk]
    exact ⟨vs ++ [v], by rw [List.zip_append hl]; rfl, by simp [hl], r.append ⟨v, [], rfl, rx, rfl⟩⟩
theorem purs_zip {κ : Type} [DecidableEq κ] {k : κ} {x : T} (px : pur x = true) : ∀ {ks : List κ} {xs : List T}, purs xs = true → purs (List.zipWith (fun k' y => if k' = k then x else y) ks xs) = true
  | [], _, _ => by simp [purs]
  | _ :: _, [], _ => by simp [purs]
  | a :: ks, y :: xs, p => by
    unfold purs at p
    rw [Bool.and_eq_true] at p
    rw [List.zipWith_cons_cons]
    unfold purs
    rw [purs_zip px p.2, Bool.and_true]
    by_cases e : a = k
    · rw [if_pos e]; exact px
    · rw [if_neg e]; exact p.1
theorem purs_app : ∀ {xs ys : List T}, purs xs = true → purs ys = true → purs (xs ++ ys) = true
  | [], _, _, q => q
  | x :: xs, ys, p, q => by
    unfold purs at p
    rw [Bool.and_eq_true] at p
    rw [List.cons_append]
    unfold purs
    rw [p.1, purs_app p.2 q]
    rfl
theorem purs_kput {κ : Type} [DecidableEq κ] {ks : List κ} {xs : List T} {k : κ} {x : T} (p : purs xs = true) (px : pur x = true) : purs (kput ks xs k x).2 = true := by
  unfold kput
  by_cases hk : k ∈ ks
  · rw [if_pos hk]; exact purs_zip px p
  · rw [if_neg hk]; exact purs_app p (by simp [purs, px])
theorem purs_set : ∀ {xs : List T} {j : Nat} {x : T}, purs xs = true → pur x = true → purs (xs.set j x) = true
  | [], _, _, _, _ => by simp [purs]
  | y :: xs, 0, x, p, q => by
    unfold purs at p
    rw [Bool.and_eq_true] at p
    simp [purs, q, p.2]
  | y :: xs, j + 1, x, p, q => by
    unfold purs at p
    rw [Bool.and_eq_true] at p
    rw [List.set_cons_succ]
    unfold purs
    rw [p.1, purs_set p.2 q]
    rfl
theorem Rs.set {x : T} {v : V} (rx : R E m H x v) : ∀ {xs : List T} {vs : List V} (j : Nat), Rs E m H xs vs → Rs E m H (xs.set j x) (vs.set j v)
  | [], _, _, r => by cases (show _ = [] from r); exact r
  | y :: xs, _, 0, ⟨a, w, e, r1, r2⟩ => by subst e; exact ⟨v, w, rfl, rx, r2⟩
  | y :: xs, _, j + 1, ⟨a, w, e, r1, r2⟩ => by subst e; exact ⟨a, _, rfl, r1, Rs.set rx j r2⟩
theorem _root_.L2.PS.or {stm : Stmt} {t t' : TS} (h : PS X stm t) (h' : PS X stm t') : PS X stm (fun D σ H => t D σ H ∨ t' D σ H) := ⟨fun pins s σ H D I q => q.elim (h.run pins s σ H D I) (h'.run pins s σ H D I)⟩
/-- whether the o of o[i] = v is a list -/
def isLc (s : Sto) : T → Bool
  | .cell c => match s[c]? with | some (_, .lst _) => true | _ => false
  | _ => false
theorem s_put {o i value : Expr} {pos' : Pos} {fo fi fv : Fx} (hu : X.A.units + 65 < cLine) (hv : PE X value (tF E W fv)) (ho : PE X o (tF E W fo)) (hi : PE X i (tF E W fi)) (hs : swapsWith value (some (.Subscript o i pos')) pos.line X.env = pure false := by rfl)
    (ha : ∀ v, assign (.Subscript o i pos') X.env v = (do
      let ov ← holding [v] (eval o X.env)
      let iv ← holding [v, ov] (eval i X.env)
      standAt pos'
      holding [v, ov, iv] (setItem ov iv v)
      release [v, ov, iv] []) := by intro _; rfl)
    (hs2 : swapsWithSole [.Subscript o i pos'] value pos.line X.env = pure false := by rfl) (hw : swappedStores [.Subscript o i pos'] value X.env = pure none := by rfl) (h1 : (assignEach [.Subscript o i pos'] X.env).map (·.2) = [assign (.Subscript o i pos') X.env] := by rfl) :
    PS X (.Assign [.Subscript o i pos'] value pos) (tS E W (sPut fo fi fv)) := by
  refine ((ps_dput (by omega) ho hi hv hs).or (ps_asg hv (pg_sub ho hi set_list ha) hs2 hw h1)).weak fun D σ H ⟨ρ, st, m, j, hp⟩ => ?_
  by_cases hc : ∃ vt s1 ot s2 it s3, fv ρ st = .ok vt s1 ∧ fo ρ s1 = .ok ot s2 ∧ fi ρ s2 = .ok it s3 ∧ isLc s3 ot = true
  · obtain ⟨vt, s1, ot, s2, it, s3, h1, h2, h3, h4⟩ := hc
    refine .inr ⟨ρ, st, m, j, PZ.imp (fun v H1 z => ?_) (PZ.then (rel := R E) hp)⟩
    obtain ⟨vt', s1', m1, ee, e1, k1, js1, r1, q1⟩ := z
    rw [h1] at ee
    cases ee
    have j1 := j.step e1 k1 js1
    refine ⟨ρ, s1, m1, j1, PZ.imp (fun ov H2 z => ?_) (PZ.then (rel := R E) q1)⟩
    obtain ⟨ot', s2', m2, ee, e2, k2, js2, r2, q2⟩ := z
    rw [h2] at ee
    cases ee
    have j2 := j1.step e2 k2 js2
    refine ⟨ρ, s2, m2, j2, PZ.imp (fun iv H3 z => ?_) (PZ.then (rel := R E) q2)⟩
    obtain ⟨it', s3', m3, ee, e3, k3, js3, r3, q3⟩ := z
    rw [h3] at ee
    cases ee
    cases hz : hPut ot it vt s3 with
    | none => rw [hz] at q3; exact q3.elim
    | some s4 =>
      rw [hz] at q3
      have r1' := (r1.mono e2 k2).mono e3 k3
      have r2' := r2.mono e3 k3
      cases ot with
      | cell c =>
        unfold hPut at hz
        dsimp only at hz
        by_cases hpv : pur vt = true
        · rw [if_pos hpv] at hz
          split at hz
          · rename_i ks xs q
            unfold isLc at h4
            dsimp only at h4
            rw [q] at h4
            cases h4
          · rename_i ks xs q
            unfold isLc at h4
            dsimp only at h4
            rw [q] at h4
            cases h4
          · rename_i xs q
            cases it with
            | int n =>
              dsimp only at hz
              cases hx : ixN xs.length n with
              | none => rw [hx] at hz; cases hz
              | some jj =>
                rw [hx] at hz
                cases hz
                cases (show iv = _ from r3)
                obtain ⟨a, k, u, rfl, hm, ⟨vs, rfl, hr⟩, lk⟩ := cell_of js3 r2' q
                cases k with
                | some _ => exact lk.elim
                | none =>
                  have wr := js3.write (o := .lst (xs.set jj vt)) (u := .lst (vs.set jj v)) hm ⟨_, rfl, hr.set r1' jj⟩ (purs_set (js3.pu c _ _ q) hpv)
                  refine ⟨a, vs, n, jj, rfl, rfl, lk, by rw [← hr.length]; exact hx, ?_⟩
                  have z : toD D (Fv.nx σ) _ := q3 (Fv.nx σ) _ m3 .refl wr.2 wr.1 ((j2.step e3 k3 js3).lc.mono .refl wr.2)
                  exact z
            | _ => cases hz
          · cases hz
        · rw [if_neg hpv] at hz; cases hz
      | _ => cases hz
  · refine .inl ⟨ρ, st, m, j, PZ.imp (fun v H1 z => ?_) (PZ.then (rel := R E) hp)⟩
    obtain ⟨vt, s1, m1, h1, e1, k1, js1, r1, q1⟩ := z
    have j1 := j.step e1 k1 js1
    refine ⟨ρ, s1, m1, j1, PZ.imp (fun ov H2 z => ?_) (PZ.then (rel := R E) q1)⟩
    obtain ⟨ot, s2, m2, h2, e2, k2, js2, r2, q2⟩ := z
    have j2 := j1.step e2 k2 js2
    refine ⟨ρ, s2, m2, j2, PZ.imp (fun iv H3 z => ?_) (PZ.then (rel := R E) q2)⟩
    obtain ⟨it, s3, m3, h3, e3, k3, js3, r3, q3⟩ := z
    have h4 : isLc s3 ot = false := by
      cases q : isLc s3 ot with
      | false => rfl
      | true => exact absurd ⟨vt, s1, ot, s2, it, s3, h1, h2, h3, q⟩ hc
    cases hz : hPut ot it vt s3 with
    | none => rw [hz] at q3; exact q3.elim
    | some s4 =>
      rw [hz] at q3
      have r1' := (r1.mono e2 k2).mono e3 k3
      have r2' := r2.mono e3 k3
      cases ot with
      | cell c =>
        unfold hPut at hz
        dsimp only at hz
        by_cases hpv : pur vt = true
        · rw [if_pos hpv] at hz
          split at hz
          · rename_i ks xs q
            cases hk : key it with
            | none => rw [hk] at hz; cases hz
            | some kk =>
              rw [hk] at hz
              dsimp only at hz
              split at hz
              · rename_i hll
                cases hz
                obtain ⟨a, k, u, rfl, hm, ⟨vs, rfl, hl, hr⟩, lk⟩ := cell_of js3 r2' q
                cases k with
                | some _ => exact lk.elim
                | none =>
                  obtain ⟨ws, p1, p2, p3⟩ := kput_ok (k := kk) hl hr r1'
                  have wr := js3.write (o := .dK (kput ks xs kk vt).1 (kput ks xs kk vt).2) (u := .dK (putK (ks.zip vs) kk v)) hm ⟨ws, by rw [p1], p2, p3⟩ (purs_kput (js3.pu c _ _ q) hpv)
                  refine ⟨a, _, rfl, .inl ⟨_, kk, lk, key_ok hk r3, by rw [List.length_zip, ← hl, Nat.min_self]; exact lim_lt (Nat.le_of_lt hll), rfl⟩, ?_⟩
                  have z : toD D (Fv.nx σ) _ := q3 (Fv.nx σ) _ m3 .refl wr.2 wr.1 ((j2.step e3 k3 js3).lc.mono .refl wr.2)
                  exact z
              · cases hz
          · rename_i ks xs q
            cases hk : keyT it with
            | none => rw [hk] at hz; cases hz
            | some kk =>
              rw [hk] at hz
              dsimp only at hz
              split at hz
              · rename_i hll
                cases hz
                obtain ⟨a, k, u, rfl, hm, ⟨vs, rfl, hl, hr⟩, lk⟩ := cell_of js3 r2' q
                cases k with
                | some _ => exact lk.elim
                | none =>
                  obtain ⟨ws, p1, p2, p3⟩ := kput_ok (k := kk) hl hr r1'
                  obtain ⟨b, eb, hb⟩ := keyT_ok hk r3
                  have wr := js3.write (o := .dT (kput ks xs kk vt).1 (kput ks xs kk vt).2) (u := .dT (putK (ks.zip vs) kk v)) hm ⟨ws, by rw [p1], p2, p3⟩ (purs_kput (js3.pu c _ _ q) hpv)
                  refine ⟨a, _, rfl, .inr ⟨_, kk, b, lk, eb, hb, by rw [List.length_zip, ← hl, Nat.min_self]; exact lim_lt (Nat.le_of_lt hll), rfl⟩, ?_⟩
                  have z : toD D (Fv.nx σ) _ := q3 (Fv.nx σ) _ m3 .refl wr.2 wr.1 ((j2.step e3 k3 js3).lc.mono .refl wr.2)
                  exact z
              · cases hz
          · rename_i xs q
            unfold isLc at h4
            dsimp only at h4
            rw [q] at h4
            cases h4
          · cases hz
        · rw [if_neg hpv] at hz; cases hz
      | _ => cases hz
end
end Sh

set_option Elab.async false
set_option linter.all false
set_option maxRecDepth 100000
set_option maxHeartbeats 4000000
namespace Sh
open PySem PySem.Spec PyProof.Rows L2
/-! ### a dict is locked while it is walked -/
def isDc : HO → Bool
  | .dK _ => true | .dT _ => true
  | _ => false
/-- a dict, or a locked one -/
def DL : HO → Prop
  | .frz _ u => isDc u = true
  | u => isDc u = true
/-- dicts are locked or unlocked, nothing else -/
structure Sw (H H' : Hp) : Prop where
  d : ∀ a u, isDc u = true → Rd H a u → Rd H' a u
  o : ∀ a u, ¬ DL u → H a = some u → H' a = some u
theorem Sw.refl {H : Hp} : Sw H H := ⟨fun _ _ _ h => h, fun _ _ _ h => h⟩
theorem sw_lock {H : Hp} {d : Addr} {u : HO} {od : Obj} (hd : H d = some u) (hu : isDc u = true) : Sw H (upd H d (.frz od u)) := by
  refine ⟨fun a x hx r => ?_, fun a x hx r => ?_⟩
  · by_cases e : a = d
    · subst e
      rcases r with r | ⟨o, r⟩
      · rw [hd] at r; cases r; exact .inr ⟨od, upd_same⟩
      · rw [hd] at r; cases r; cases hu
    · unfold Rd; rw [upd_ne e]; exact r
  · rw [upd_ne]
    · exact r
    · rintro rfl
      rw [hd] at r; cases r
      exact hx (by cases u <;> first | exact hu | cases hu)
theorem sw_unlock {H : Hp} {d : Addr} {u : HO} {od : Obj} (hd : H d = some (.frz od u)) (hu : isDc u = true) : Sw H (upd H d u) := by
  refine ⟨fun a x hx r => ?_, fun a x hx r => ?_⟩
  · by_cases e : a = d
    · subst e
      rcases r with r | ⟨o, r⟩
      · rw [hd] at r; cases r; cases hx
      · rw [hd] at r; cases r; exact .inl upd_same
    · unfold Rd; rw [upd_ne e]; exact r
  · rw [upd_ne]
    · exact r
    · rintro rfl
      rw [hd] at r; cases r
      exact hx hu
section
variable {E : RE} {W : XK} {m m' : Ma} {H H' : Hp} {st s s' : Sto} {X : Cx} {t : T} {v : V} {ρ : Lo} {σ : L2.St}
theorem fr_ad (h : m'.ad = m.ad) {a : Addr} (f : Fr E m a) : Fr E m' a := ⟨by rw [h]; exact f.1, f.2⟩
mutual
theorem R.sw (sw : Sw H H') (hm : m'.ad = m.ad) : ∀ {t : T} {v : V}, R E m H t v → R E m' H' t v
  | .non, _, h => h
  | .bl _, _, h => h
  | .int _, _, h => h
  | .str _, _, h => h
  | .tup xs, v, ⟨a, vs, ev, na, hs, hr⟩ => ⟨a, vs, ev, fr_ad hm na, sw.o _ _ (fun z => nomatch z) hs, Rs.sw sw hm hr⟩
  | .tupK xs, v, ⟨a, vs, ev, hs, hr⟩ => ⟨a, vs, ev, hs, Rs.sw sw hm hr⟩
  | .lst xs, v, ⟨a, vs, ev, na, hs, hr⟩ => ⟨a, vs, ev, fr_ad hm na, sw.o _ _ (fun z => nomatch z) hs, Rs.sw sw hm hr⟩
  | .scr xs, v, ⟨a, vs, ev, hs, hr⟩ => ⟨a, vs, ev, hs.elim (fun z => .inl ⟨fr_ad hm z.1, z.2.elim (fun y => .inl (sw.o _ _ (fun z => nomatch z) y)) fun ⟨o, y⟩ => .inr ⟨o, sw.o _ _ (fun z => nomatch z) y⟩⟩) .inr, Rs.sw sw hm hr⟩
  | .dK ks xs, v, ⟨a, vs, ev, na, hs, hk, hr⟩ => ⟨a, vs, ev, fr_ad hm na, sw.d _ _ rfl hs, hk, Rs.sw sw hm hr⟩
  | .dT ks xs, v, ⟨a, vs, ev, na, hs, hk, hr⟩ => ⟨a, vs, ev, fr_ad hm na, sw.d _ _ rfl hs, hk, Rs.sw sw hm hr⟩
  | .ins c xs, v, ⟨a, dx, vs, ev, na, hs, hk, hr⟩ => ⟨a, dx, vs, ev, fr_ad hm na, sw.o _ _ (fun z => nomatch z) hs, hk, Rs.sw sw hm hr⟩
  | .cell i, v, ⟨a, h1, h2⟩ => ⟨a, by rw [hm]; exact h1, h2⟩
theorem Rs.sw (sw : Sw H H') (hm : m'.ad = m.ad) : ∀ {ts : List T} {vs : List V}, Rs E m H ts vs → Rs E m' H' ts vs
  | [], _, h => h
  | x :: xs, vs, ⟨v, r, ev, h1, h2⟩ => ⟨v, r, ev, R.sw sw hm h1, Rs.sw sw hm h2⟩
end
theorem CO.sw (sw : Sw H H') (hm : m'.ad = m.ad) {o : MO} {u : HO} (h : CO E m H o u) : CO E m' H' o u := by
  cases o with
  | lst xs => obtain ⟨vs, h1, h2⟩ := h; exact ⟨vs, h1, h2.sw sw hm⟩
  | dK ks xs => obtain ⟨vs, h1, h0, h2⟩ := h; exact ⟨vs, h1, h0, h2.sw sw hm⟩
  | dT ks xs => obtain ⟨vs, h1, h0, h2⟩ := h; exact ⟨vs, h1, h0, h2.sw sw hm⟩
  | ins c ns xs => obtain ⟨dx, vs, h1, h0, h2⟩ := h; exact ⟨dx, vs, h1, h0, h2.sw sw hm⟩
theorem Lc.sw (sw : Sw H H') (hm : m'.ad = m.ad) (l : Lc E m H ρ σ) : Lc E m' H' ρ σ := ⟨l.len, fun i t h => let ⟨v, h1, h2⟩ := l.loc i t h; ⟨v, h1, h2.sw sw hm⟩⟩
/-- a thing that is no cell and not in the making is locked or unlocked -/
theorem JS.swF (js : JS E m s H) {d : Addr} {x : HO} (f : Fr E m d) (sw : Sw H (upd H d x)) : JS E m s (upd H d x) :=
  ⟨js.len, js.nod, js.pu, js.dis, fun a ha => by rw [upd_ne (fun z => f.2 (by rw [← z]; exact ha))]; exact js.exs a ha, fun i b o h => by
    obtain ⟨a, k, u, h1, h2, h3⟩ := js.at_ i b o h
    have ne : a ≠ d := fun z => f.1 (by rw [← z]; exact List.mem_of_getElem? (ad_get.mpr ⟨k, h1⟩))
    exact ⟨a, k, u, h1, h2.sw sw rfl, Lk.keep h3 fun o' q => by rw [upd_ne ne]; exact q⟩⟩
theorem ad_set (m : Ma) {i : Nat} {a : Addr} {k k' : Option Obj} (h : m[i]? = some (a, k)) : Ma.ad (m.set i (a, k')) = m.ad := by
  unfold Ma.ad
  rw [List.map_set]
  apply List.ext_getElem?
  intro j
  by_cases e : i = j
  · subst e
    have hl : i < (m.map (·.1)).length := by rw [List.length_map]; exact (List.getElem?_eq_some_iff.mp h).1
    rw [List.getElem?_set_self hl, List.getElem?_map, h]
    rfl
  · rw [List.getElem?_set_ne e]
/-- a cell's lock is set or taken away -/
theorem JS.swC (js : JS E m s H) {i : Nat} {a : Addr} {k k' : Option Obj} {b b' : Bool} {o : MO} {u x : HO} (hm : m[i]? = some (a, k)) (hs : s[i]? = some (b, o)) (co : CO E m H o u) (sw : Sw H (upd H a x)) (lk : Lk (upd H a x) a u b' k') :
    JS E (m.set i (a, k')) (s.set i (b', o)) (upd H a x) := by
  have had := ad_set m (k' := k') hm
  have ha : a ∈ m.ad := List.mem_of_getElem? (ad_get.mpr ⟨k, hm⟩)
  refine ⟨by simp [js.len], by rw [had]; exact js.nod, fun j c p h => ?_, by rw [had]; exact js.dis, fun c hc => by rw [upd_ne (fun z => js.dis a ha (by rw [← z]; exact hc))]; exact js.exs c hc, fun j c p h => ?_⟩
  · by_cases e : i = j
    · subst e
      rw [List.getElem?_set_self (List.getElem?_eq_some_iff.mp hs).1] at h
      cases h
      exact js.pu i b o hs
    · rw [List.getElem?_set_ne e] at h; exact js.pu j c p h
  · by_cases e : i = j
    · subst e
      rw [List.getElem?_set_self (List.getElem?_eq_some_iff.mp hs).1] at h
      cases h
      exact ⟨a, k', u, by rw [List.getElem?_set_self (List.getElem?_eq_some_iff.mp hm).1], co.sw sw had, lk⟩
    · rw [List.getElem?_set_ne e] at h
      obtain ⟨a2, k2, u2, h1, h2, h3⟩ := js.at_ j c p h
      have ne : a2 ≠ a := by
        rintro rfl
        exact e (ad_ix js.nod (ad_get.mpr ⟨_, hm⟩) (ad_get.mpr ⟨_, h1⟩))
      exact ⟨a2, k2, u2, by rw [List.getElem?_set_ne e]; exact h1, h2.sw sw had, Lk.keep h3 fun o' q => by rw [upd_ne ne]; exact q⟩

/-! ### the keys -/
def dictKeys (s : Sto) (t : T) : Option (List T) := match asDK s t with
  | some (ks, _) => some (ks.map kT)
  | none => match asDT s t with
    | some (ks, _) => some (ks.map fun k => .tup (k.map kT))
    | none => none
theorem kT_R {k : Key} : R E m H (kT k) (kV k) := by cases k <;> exact rfl
theorem kTs_R : ∀ {k : List Key}, Rs E m H (k.map kT) (k.map kV)
  | [] => rfl
  | k :: ks => ⟨_, _, rfl, kT_R, kTs_R⟩
theorem tup_fr {l : List Addr} {q : Addr} {vs : List V} (js : JS (E.x l) m s H) (h : H q = some (.tup vs)) : Fr (E.x l) m q := by
  refine ⟨fun z => ?_, fun z => ?_⟩
  · obtain ⟨i, hi⟩ := List.getElem?_of_mem z
    obtain ⟨k, hk⟩ := ad_get.mp hi
    have hl : i < s.length := by rw [← js.len]; exact (List.getElem?_eq_some_iff.mp hk).1
    obtain ⟨a', k', u, h1, h2, h3⟩ := js.at_ i s[i].1 s[i].2 (by rw [List.getElem?_eq_getElem hl])
    rw [hk] at h1
    cases h1
    have nu : ∀ ws, u ≠ .tup ws := by
      intro ws e
      subst e
      cases hso : s[i].2 with
      | lst _ => rw [hso] at h2; obtain ⟨_, h2, _⟩ := h2; cases h2
      | dK _ _ => rw [hso] at h2; obtain ⟨_, h2, _⟩ := h2; cases h2
      | dT _ _ => rw [hso] at h2; obtain ⟨_, h2, _⟩ := h2; cases h2
      | ins _ _ _ => rw [hso] at h2; obtain ⟨_, _, h2, _⟩ := h2; cases h2
    rcases Lk.rd h3 with z | ⟨o, z⟩
    · rw [h] at z; cases z; exact nu _ rfl
    · rw [h] at z; cases z
  · obtain ⟨o, h1, h2⟩ := js.exs q z
    rw [h] at h1
    cases h1
    cases h2
theorem Wk.keysK {d : Addr} {o : Obj} {ks : List Key} {vs : List V} (hl : ks.length = vs.length) (hd : H d = some (.frz o (.dK (ks.zip vs)))) (hf : d ∉ m.fre) : Wk E m H (Itk d o (ks.zip vs)) (ks.map kT) := by
  refine ⟨_, _, by rw [List.length_map, show ks.length = (ks.zip vs).length by rw [List.length_zip, ← hl, Nat.min_self]]; exact walk_keys, fun m' H' _ k => k d _ hf hd, ?_⟩
  rintro l i t x m' s' H' H'' _ hi e k js ⟨rfl, kk, vv, h1, rfl⟩
  refine ⟨.refl, js, ?_⟩
  rw [List.getElem?_map] at hi
  cases q : ks[i]? with
  | none => rw [q] at hi; cases hi
  | some k2 =>
    rw [q] at hi
    cases hi
    have : kk = k2 := by
      have z := List.getElem?_zip_eq_some.mp h1
      rw [q] at z
      exact (Option.some.inj z.1).symm
    subst this
    exact kT_R
theorem Wk.keysT {d : Addr} {o : Obj} {ks : List (List Key)} {vs : List V} (hl : ks.length = vs.length) (hd : H d = some (.frz o (.dT (ks.zip vs)))) (hf : d ∉ m.fre) : Wk E m H (Itkt d o (ks.zip vs)) (ks.map fun k => .tup (k.map kT)) := by
  refine ⟨_, _, by rw [List.length_map, show ks.length = (ks.zip vs).length by rw [List.length_zip, ← hl, Nat.min_self]]; exact walk_keysT, fun m' H' _ k => k d _ hf hd, ?_⟩
  rintro l i t x m' s' H' H'' _ hi e k js ⟨rfl, kk, vv, qq, h1, rfl, h2⟩
  refine ⟨.refl, js, ?_⟩
  rw [List.getElem?_map] at hi
  cases q : ks[i]? with
  | none => rw [q] at hi; cases hi
  | some k2 =>
    rw [q] at hi
    cases hi
    have : kk = k2 := by
      have z := List.getElem?_zip_eq_some.mp h1
      rw [q] at z
      exact (Option.some.inj z.1).symm
    subst this
    exact ⟨qq, _, rfl, tup_fr js h2, h2, kTs_R⟩

/-! ### where the dict stands -/
abbrev Pth := Lo → Sto → Option T
def pVar (i : Nat) : Pth := fun ρ _ => match ρ[i]? with | some (some t) => some t | _ => none
def pFld (fn : Nat → List Str) (c0 : Nat) (f : Str) (p : Pth) : Pth := fun ρ s => match p ρ s with
  | some (.ins c xs) => if c = c0 then kget (fn c0) xs f else none
  | _ => none
/-- tp gives the very value that stands for p's tree -/
def PthR (E : RE) (p : Pth) (tp : TE) : Prop := ∀ l m ρ s σ H t, J (E.x l) m ρ s σ H → p ρ s = some t → ∃ v, R (E.x l) m H t v ∧ ∀ H', Sw H H' → ∀ Q : VK, Q v H' → tp σ H' Q
theorem p_var {i : Nat} : PthR E (pVar i) (tVar i) := fun l m ρ s σ H t j h => by
  unfold pVar at h
  split at h
  · rename_i t' q
    cases h
    obtain ⟨v, h1, h2⟩ := j.loc i t q
    exact ⟨v, h2, fun H' _ Q q => ⟨v, h1, q⟩⟩
  · cases h
theorem p_fld {p : Pth} {tp : TE} {f : Str} (c0 : Nat) (hK : X.K = E.K) (cl : Cls X.K (E.ca c0)) (na : NoAttr X.K (E.ca c0) f) (hp : PthR E p tp) : PthR E (pFld E.fn c0 f p) (tFld X.K tp f) := fun l m ρ s σ H t j h => by
  unfold pFld at h
  split at h
  · rename_i c xs q
    split at h
    · rename_i hc
      subst hc
      obtain ⟨v, r, hv⟩ := hp l m ρ s σ H _ j q
      obtain ⟨a, dx, vs, rfl, nx, hs, hl, hr⟩ := r
      obtain ⟨w, h1, h2⟩ := (lookup_ok f hl hr).1 t h
      exact ⟨w, h2, fun H' sw Q q => hv H' sw _ ⟨a, _, dx, _, w, rfl, sw.o _ _ (fun z => nomatch z) hs, cl, na, h1, q⟩⟩
    · cases h
  · cases h

/-! ### for over a dict -/
def lockT (t : T) (s : Sto) : Sto := match t with
  | .cell i => match s[i]? with | some (_, o) => s.set i (true, o) | none => s
  | _ => s
/-- the lock as it was in s0 -/
def backT (t : T) (s0 s : Sto) : Sto := match t with
  | .cell i => match s0[i]? with | some p => s.set i p | none => s
  | _ => s
def freeT (t : T) (s : Sto) : Bool := match t with
  | .cell i => match s[i]? with | some (b, _) => !b | none => false
  | _ => true
def sForD (p : Pth) (g : Tg) (b : Fs) : Fs := fun ρ st => match p ρ st with
  | none => .bad
  | some t => match dictKeys st t with
    | none => .bad
    | some ks => if freeT t st = true then (noX (loop g b ks ρ (lockT t st))).then fun fl s => .ok fl (backT t st s) else .bad
/-- what dictKeys means -/
theorem dictKeys_ok {ks : List T} (h : dictKeys s t = some ks) (js : JS E m s H) (r : R E m H t v) : ∃ d u, v = .ref d ∧ isDc u = true ∧ Rd H d u ∧ (∀ m' H' o, H' d = some (.frz o u) → d ∉ m'.fre → ∃ J, Wk E m' H' J ks ∧ ∀ Rr : It → Hp → Prop, Rr J H' → ((∃ kvs, H' d = some (.frz o (.dK kvs)) ∧ Rr (Itk d o kvs) H') ∨ ∃ kvs, H' d = some (.frz o (.dT kvs)) ∧ Rr (Itkt d o kvs) H')) := by
  unfold dictKeys at h
  split at h
  · rename_i ls xs hd
    cases h
    obtain ⟨d, vs, rfl, hr, hl, rs⟩ := asDK_ok hd js r
    exact ⟨d, _, rfl, rfl, hr, fun m' H' o h hf => ⟨_, Wk.keysK hl h hf, fun Rr q => .inl ⟨_, h, q⟩⟩⟩
  · split at h
    · rename_i ls xs hd
      cases h
      obtain ⟨d, vs, rfl, hr, hl, rs⟩ := asDT_ok hd js r
      exact ⟨d, _, rfl, rfl, hr, fun m' H' o h hf => ⟨_, Wk.keysT hl h hf, fun Rr q => .inr ⟨_, h, q⟩⟩⟩
    · cases h
theorem mut_dc {u : HO} (h : isDc u = true) : Mut (some u) := by cases u <;> first | trivial | cases h
/-- how t's dict is locked: the store, the cells behind the lock -/
theorem lock_ok {ks : List T} {d : Addr} {u : HO} (hk : dictKeys s t = some ks) (js : JS E m s H) (r : R E m H t (.ref d)) (hd : H d = some u) (hu : isDc u = true) (od : Obj) :
    ∃ m', m'.ad = m.ad ∧ JS E m' (lockT t s) (upd H d (.frz od u)) ∧ d ∉ m'.fre ∧
      ∀ m2 H2 s2, Ext m' m2 (upd H d (.frz od u)) → Keep m' (upd H d (.frz od u)) H2 → JS E m2 s2 H2 → ∃ m3, m3.ad = m2.ad ∧ Ext m m3 H ∧ Keep m H (upd H2 d u) ∧ JS E m3 (backT t s s2) (upd H2 d u) ∧ H2 d = some (.frz od u) := by
  have sw := sw_lock (od := od) hd hu
  have nfz : ∀ o x, u ≠ .frz o x := fun o x e => by subst e; cases hu
  -- what is no cell
  have frozen : (∀ i, t ≠ .cell i) → Fr E m d → ∃ m', m'.ad = m.ad ∧ JS E m' (lockT t s) (upd H d (.frz od u)) ∧ d ∉ m'.fre ∧
      ∀ m2 H2 s2, Ext m' m2 (upd H d (.frz od u)) → Keep m' (upd H d (.frz od u)) H2 → JS E m2 s2 H2 → ∃ m3, m3.ad = m2.ad ∧ Ext m m3 H ∧ Keep m H (upd H2 d u) ∧ JS E m3 (backT t s s2) (upd H2 d u) ∧ H2 d = some (.frz od u) := by
    intro nc f
    have l1 : lockT t s = s := by cases t <;> first | rfl | exact absurd rfl (nc _)
    refine ⟨m, rfl, by rw [l1]; exact js.swF f sw, nf f.1, fun m2 H2 s2 e k js2 => ?_⟩
    have h2 : H2 d = some (.frz od u) := k d _ (nf f.1) upd_same
    have l2 : backT t s s2 = s2 := by cases t <;> first | rfl | exact absurd rfl (nc _)
    have f2 : Fr E m2 d := ⟨e.ad f.1 (by rw [upd_same]; exact fun z => nomatch z), f.2⟩
    refine ⟨m2, rfl, ?_, ?_, by rw [l2]; exact js2.swF f2 (sw_unlock h2 hu), h2⟩
    · obtain ⟨new, rfl, hn⟩ := e
      refine ⟨new, rfl, fun p hp => ⟨?_, (hn p hp).2⟩⟩
      have := (hn p hp).1
      by_cases ep : p.1 = d
      · rw [ep, upd_same] at this; cases this
      · rw [upd_ne ep] at this; exact this
    · intro a o na ha
      by_cases ea : a = d
      · subst ea; rw [upd_same, ← hd, ha]
      · rw [upd_ne ea]; exact k a o na (by rw [upd_ne ea]; exact ha)
  cases t with
  | dK ls xs => obtain ⟨a, vs, ev, na, _⟩ := r; cases ev; exact frozen (fun _ z => nomatch z) na
  | dT ls xs => obtain ⟨a, vs, ev, na, _⟩ := r; cases ev; exact frozen (fun _ z => nomatch z) na
  | cell i =>
    cases q : s[i]? with
    | none => unfold dictKeys asDK asDT at hk; simp [q] at hk
    | some p =>
      obtain ⟨b, o⟩ := p
      obtain ⟨a, kk, u', ev, hm, co, lk⟩ := cell_of js r q
      cases ev
      have hb : b = false ∧ kk = none ∧ u' = u := by
        cases b <;> cases kk <;> first | exact lk.elim | skip
        · refine ⟨rfl, rfl, ?_⟩
          have : H d = some u' := lk
          rw [hd] at this
          exact (Option.some.inj this).symm
        · have : H d = some (.frz _ u') := lk
          rw [hd] at this
          exact absurd (Option.some.inj this) (nfz _ _)
      obtain ⟨rfl, rfl, rfl⟩ := hb
      have l1 : lockT (.cell i) s = s.set i (true, o) := by unfold lockT; dsimp only; rw [q]
      have had := ad_set m (k' := some od) hm
      have js1 := js.swC (k' := some od) (b' := true) hm q co sw upd_same
      have hm1 : (m.set i (d, some od))[i]? = some (d, some od) := List.getElem?_set_self (List.getElem?_eq_some_iff.mp hm).1
      have nfd : d ∉ Ma.fre (m.set i (d, some od)) := fun z => by
        obtain ⟨p, hp, e⟩ := List.mem_map.mp z
        obtain ⟨hp1, hp2⟩ := List.mem_filter.mp hp
        obtain ⟨j, hj⟩ := List.getElem?_of_mem hp1
        have : i = j := by
          refine ad_ix js1.nod (ad_get.mpr ⟨_, hm1⟩) (ad_get.mpr ⟨p.2, ?_⟩)
          rw [hj, ← e]
        subst this
        rw [hm1] at hj
        cases hj
        cases hp2
      refine ⟨m.set i (d, some od), had, by rw [l1]; exact js1, nfd, fun m2 H2 s2 e k js2 => ?_⟩
      have h2 : H2 d = some (.frz od u') := k d _ nfd upd_same
      have hm2 : m2[i]? = some (d, some od) := e.get hm1
      have l2 : backT (.cell i) s s2 = s2.set i (false, o) := by unfold backT; dsimp only; rw [q]
      have il : i < s2.length := by rw [← js2.len]; exact (List.getElem?_eq_some_iff.mp hm2).1
      -- the cell's content as it was
      have hs2 : ∃ b2 o2, s2[i]? = some (b2, o2) := ⟨s2[i].1, s2[i].2, List.getElem?_eq_getElem il⟩
      obtain ⟨b2, o2, hs2⟩ := hs2
      have sw2 := sw_unlock h2 hu
      have co1 : CO E (m.set i (d, some od)) (upd H d (.frz od u')) o u' := co.sw sw had
      have co2 : CO E m2 H2 o u' := co1.mono e k
      have had2 := ad_set m2 (k' := none) hm2
      -- first the content is put back, then the lock is taken away
      have js2' : JS E m2 (s2.set i (true, o)) H2 := by
        refine ⟨by simp [js2.len], js2.nod, fun j c p h => ?_, js2.dis, js2.exs, fun j c p h => ?_⟩
        · by_cases eij : i = j
          · subst eij
            rw [List.getElem?_set_self il] at h
            cases h
            exact js.pu i false o q
          · rw [List.getElem?_set_ne eij] at h; exact js2.pu j c p h
        · by_cases eij : i = j
          · subst eij
            rw [List.getElem?_set_self il] at h
            cases h
            exact ⟨d, some od, u', hm2, co2, h2⟩
          · rw [List.getElem?_set_ne eij] at h; exact js2.at_ j c p h
      have fin := js2'.swC (k' := none) (b' := false) hm2 (List.getElem?_set_self il) co2 sw2 upd_same
      rw [List.set_set] at fin
      refine ⟨m2.set i (d, none), had2, ?_, ?_, by rw [l2]; exact fin, h2⟩
      · obtain ⟨new, rfl, hn⟩ := e
        have hil : i < (m.set i (d, some od)).length := (List.getElem?_eq_some_iff.mp hm1).1
        refine ⟨new, ?_, fun p hp => ?_⟩
        · rw [List.set_append_left _ _ hil, List.set_set]
          congr 1
          apply List.ext_getElem?
          intro j
          by_cases eij : i = j
          · subst eij
            rw [List.getElem?_set_self (by simpa using hil), hm]
          · rw [List.getElem?_set_ne eij]
        · have z := hn p hp
          rw [had] at z
          refine ⟨?_, z.2⟩
          have := z.1
          by_cases ep : p.1 = d
          · rw [ep, upd_same] at this; cases this
          · rw [upd_ne ep] at this; exact this
      · intro a x na ha
        have nad : a ≠ d := fun z => na (by rw [z]; exact fre_of hm)
        rw [upd_ne nad]
        refine k a x (fun z => na ?_) (by rw [upd_ne nad]; exact ha)
        obtain ⟨p, hp, e2⟩ := List.mem_map.mp z
        obtain ⟨hp1, hp2⟩ := List.mem_filter.mp hp
        obtain ⟨j, hj⟩ := List.getElem?_of_mem hp1
        by_cases eij : i = j
        · subst eij
          rw [hm1] at hj
          cases hj
          cases hp2
        · rw [List.getElem?_set_ne eij] at hj
          exact List.mem_map.mpr ⟨p, List.mem_filter.mpr ⟨List.mem_of_getElem? hj, hp2⟩, e2⟩
  | lst _ => cases hk
  | tup _ => cases hk
  | scr _ => cases hk
  | tupK _ => cases hk
  | ins _ _ => cases hk
  | non => cases hk
  | bl _ => cases hk
  | int _ => cases hk
  | str _ => cases hk
theorem nofre {d : Addr} {o : Obj} {u : HO} (js : JS E m s H) (h : H d = some (.frz o u)) : d ∉ m.fre := fun z => by
  obtain ⟨p, hp, e⟩ := List.mem_map.mp z
  obtain ⟨hp1, hp2⟩ := List.mem_filter.mp hp
  obtain ⟨i, hi⟩ := List.getElem?_of_mem hp1
  have hl : i < s.length := by rw [← js.len]; exact (List.getElem?_eq_some_iff.mp hi).1
  obtain ⟨a', k', u', h1, h2, h3⟩ := js.at_ i s[i].1 s[i].2 (by rw [List.getElem?_eq_getElem hl])
  obtain ⟨pa, pk⟩ := p
  rw [hi] at h1
  have e1 : pa = a' := congrArg Prod.fst (Option.some.inj h1)
  have e2 : pk = k' := congrArg Prod.snd (Option.some.inj h1)
  have e3 : pa = d := e
  subst e1 e2 e3
  cases pk with
  | some _ => cases hp2
  | none =>
    have nz : ∀ oo xx, u' ≠ .frz oo xx := by
      intro oo xx e4
      subst e4
      cases hso : s[i].2 with
      | lst _ => rw [hso] at h2; obtain ⟨_, h2, _⟩ := h2; cases h2
      | dK _ _ => rw [hso] at h2; obtain ⟨_, h2, _⟩ := h2; cases h2
      | dT _ _ => rw [hso] at h2; obtain ⟨_, h2, _⟩ := h2; cases h2
      | ins _ _ _ => rw [hso] at h2; obtain ⟨_, _, h2, _⟩ := h2; cases h2
    cases hb : s[i].1 with
    | false =>
      rw [hb] at h3
      have h3' : H pa = some u' := h3
      rw [h] at h3'
      exact nz _ _ (Option.some.inj h3').symm
    | true => rw [hb] at h3; exact h3
/-- a locked tree needs no second lock -/
theorem tree_free {d : Addr} {o : Obj} {u : HO} (js : JS E m s H) (r : R E m H t (.ref d)) (h : H d = some (.frz o u)) (hf : freeT t s = true) : lockT t s = s ∧ ∀ s2, backT t s s2 = s2 := by
  cases t with
  | cell i =>
    exfalso
    unfold freeT at hf
    dsimp only at hf
    cases q : s[i]? with
    | none => rw [q] at hf; cases hf
    | some p =>
      obtain ⟨b, x⟩ := p
      rw [q] at hf
      cases b with
      | true => cases hf
      | false =>
        obtain ⟨a, kk, u', ev, hm, co, lk⟩ := cell_of js r q
        cases ev
        cases kk with
        | some _ => exact lk.elim
        | none => exact nofre js h (fre_of hm)
  | _ => exact ⟨rfl, fun _ => rfl⟩
theorem t_forD {p : Pth} {tp : TE} {G : Tg} {sl : List Nat} {b : Fs} {D : Ends} (hpth : PthR E p tp) (q : tS E W (sForD p G b) D σ H) : tLock (tFor (iKeys tp) (tG E G sl) (tS E W b)) D σ H ∨ tFor (iKeys tp) (tG E G sl) (tS E W b) D σ H := by
  obtain ⟨ρ, st, m, j, hp⟩ := q
  unfold sForD at hp
  cases hpt : p ρ st with
  | none => rw [hpt] at hp; exact hp.elim
  | some t =>
    rw [hpt] at hp
    dsimp only at hp
    cases hks : dictKeys st t with
    | none => rw [hks] at hp; exact hp.elim
    | some ks =>
      rw [hks] at hp
      dsimp only at hp
      by_cases hf : freeT t st = true
      case neg => rw [if_neg hf] at hp; exact hp.elim
      rw [if_pos hf] at hp
      rcases noX_cases (loop G b ks ρ (lockT t st)) with ⟨fl, s2, hz0, hz⟩ | hz
      case inr => rw [hz] at hp; exact hp.elim
      rw [hz] at hp
      simp only [Z.then] at hp
      obtain ⟨v, r, hv⟩ := hpth E.ex m ρ st σ H t j hpt
      obtain ⟨d, u, rfl, hu, rd, hwk⟩ := dictKeys_ok (E := E) hks j.sto r
      rcases rd with hd | ⟨o, hd⟩
      · refine .inl ⟨d, u, hd, mut_dc hu, fun od => ?_⟩
        obtain ⟨m', had, js', nfd, back⟩ := lock_ok (E := E) hks j.sto r hd hu od
        obtain ⟨Jt, wk, fin⟩ := hwk m' (upd H d (.frz od u)) od upd_same nfd
        have sw := sw_lock (od := od) hd hu
        have key : ∀ Rr : It → Hp → Prop, Rr Jt (upd H d (.frz od u)) → iKeys tp σ (upd H d (.frz od u)) Rr := fun Rr q => hv _ sw _ ⟨d, od, rfl, fin Rr q⟩
        refine key _ (for_core wk ((j.lc.sw sw had).j js') ?_)
        rw [hz0]
        intro fv H2 m2 e k js2 rr
        obtain ⟨m3, had3, ext3, keep3, js3, h2⟩ := back m2 H2 s2 e k js2
        have sw2 := sw_unlock h2 hu
        cases fl with
        | nx ρ' => cases fv with
          | nx σ' => exact ⟨h2, hp (Fv.nx σ') _ m3 ext3 keep3 js3 (Lc.sw sw2 had3 rr)⟩
          | _ => exact rr.elim
        | rt t' => cases fv with
          | rt w => exact ⟨h2, hp (Fv.rt w) _ m3 ext3 keep3 js3 (R.sw sw2 had3 rr)⟩
          | _ => exact rr.elim
        | bk ρ' => cases fv with
          | bk σ' => exact ⟨h2, hp (Fv.bk σ') _ m3 ext3 keep3 js3 (Lc.sw sw2 had3 rr)⟩
          | _ => exact rr.elim
        | ct ρ' => cases fv with
          | ct σ' => exact ⟨h2, hp (Fv.ct σ') _ m3 ext3 keep3 js3 (Lc.sw sw2 had3 rr)⟩
          | _ => exact rr.elim
      · obtain ⟨l1, l2⟩ := tree_free (E := E) j.sto r hd hf
        rw [l1] at hz0
        rw [l2] at hp
        obtain ⟨Jt, wk, fin⟩ := hwk m H o hd (nofre j.sto hd)
        have key : ∀ Rr : It → Hp → Prop, Rr Jt H → iKeys tp σ H Rr := fun Rr q => hv H .refl _ ⟨d, o, rfl, fin Rr q⟩
        refine .inr (key _ (for_core wk j ?_))
        rw [hz0]
        exact hp
theorem s_forD {tg iter : Expr} {body : List Stmt} {pos : Pos} {p : Pth} {tp : TE} {G : Tg} {sl : List Nat} {b : Fs} (hp : PassesOwn (model X.prog X.w) X.A X.env X.xe) (hc : X.calm = true) (he : PE X iter tp) (hpth : PthR E p tp) (hg : PG X tg (tG E G sl)) (hb : PSs X body (tS E W b))
    (hs : ∀ x, foldedSetIterable iter X.env x = pure x := by intro _; rfl) : PS X (.For tg iter body [] pos) (tS E W (sForD p G b)) :=
  ((ps_lock (ps_for hp hc (pi_keys he) hg hb hs)).or (ps_for hp hc (pi_keys he) hg hb hs)).weak fun _ _ _ => t_forD hpth
end
end Sh

set_option Elab.async false
set_option linter.all false
set_option maxRecDepth 100000
set_option maxHeartbeats 4000000
namespace Sh
open PySem PySem.Spec PyProof.Rows L2
section
variable {E : RE} {W : XK} {m m' : Ma} {H H' : Hp} {st s s' : Sto} {X : Cx} {t : T} {v : V} {ρ : Lo} {σ : L2.St}
/-! ### [e for k in d] -/
def vLcD (vs : List Nat) (p : Pth) (g : Tg) (c : Fb) (e : Fx) : Fx := fun ρ st => match p ρ st with
  | none => .bad
  | some t => match dictKeys st t with
    | none => .bad
    | some ks => if freeT t st = true ∧ ks.length ≤ lim then (cLoop g c e (wipeL ρ vs) ks (lockT t st)).then fun ys s => .ok (.lst ys) (backT t st s) else .bad
theorem t_lcD {p : Pth} {tp : TE} {G : Tg} {sl vs : List Nat} {fc : Fb} {fe : Fx} {Q : VK} (hsl : ∀ i ∈ sl, i ∈ vs) (hpth : PthR E p tp) (q : tF E W (vLcD vs p G fc fe) σ H Q) :
    tLockE (tLc (iKeys tp) (anyG E G sl) (anyT E fc) (anyE E fe) vs) σ H Q ∨ tLc (iKeys tp) (anyG E G sl) (anyT E fc) (anyE E fe) vs σ H Q := by
  obtain ⟨ρ, st, m, j, hp⟩ := q
  unfold vLcD at hp
  cases hpt : p ρ st with
  | none => rw [hpt] at hp; exact hp.elim
  | some t =>
    rw [hpt] at hp
    dsimp only at hp
    cases hks : dictKeys st t with
    | none => rw [hks] at hp; exact hp.elim
    | some ks =>
      rw [hks] at hp
      dsimp only at hp
      by_cases hf : freeT t st = true ∧ ks.length ≤ lim
      case neg => rw [if_neg hf] at hp; exact hp.elim
      rw [if_pos hf] at hp
      rcases cLoop_cases (g := G) (c := fc) (e := fe) (ρ := wipeL ρ vs) ks (lockT t st) with ⟨ys, sF, hz⟩ | hz
      case inr => rw [hz] at hp; exact hp.elim
      rw [hz] at hp
      simp only [Z.then] at hp
      obtain ⟨v, r, hv⟩ := hpth E.ex m ρ st σ H t j hpt
      obtain ⟨d, u, rfl, hu, rd, hwk⟩ := dictKeys_ok (E := E) hks j.sto r
      rcases rd with hd | ⟨o, hd⟩
      · refine .inl ⟨d, u, hd, mut_dc hu, fun od => ?_⟩
        obtain ⟨m', had, js', nfd, back⟩ := lock_ok (E := E) hks j.sto r hd hu od
        obtain ⟨Jt, wk, fin⟩ := hwk m' (upd H d (.frz od u)) od upd_same nfd
        have sw := sw_lock (od := od) hd hu
        have key : ∀ Rr : It → Hp → Prop, Rr Jt (upd H d (.frz od u)) → iKeys tp σ (upd H d (.frz od u)) Rr := fun Rr q => hv _ sw _ ⟨d, od, rfl, fin Rr q⟩
        refine key _ (lc_coreF (Qd := fun D H' => H' d = some (.frz od u) ∧ Q (.ref D) (upd H' d u)) hsl wk ((j.lc.sw sw had).wipe vs) js' hf.2 hz fun D H2 m2 e k js2 rr => ?_)
        obtain ⟨m3, had3, ext3, keep3, js3, h2⟩ := back m2 H2 sF e k js2
        exact ⟨h2, hp (.ref D) _ m3 ext3 keep3 js3 (R.sw (sw_unlock h2 hu) had3 rr)⟩
      · obtain ⟨l1, l2⟩ := tree_free (E := E) j.sto r hd hf.1
        rw [l1] at hz
        rw [l2] at hp
        obtain ⟨Jt, wk, fin⟩ := hwk m H o hd (nofre j.sto hd)
        have key : ∀ Rr : It → Hp → Prop, Rr Jt H → iKeys tp σ H Rr := fun Rr q => hv H .refl _ ⟨d, o, rfl, fin Rr q⟩
        exact .inr (key _ (lc_coreF (Qd := fun D H' => Q (.ref D) H') hsl wk (j.lc.wipe vs) j.sto hf.2 hz fun D H2 m2 e k js2 rr => hp (.ref D) H2 m2 e k js2 rr))
theorem x_lcD {elt tg iter : Expr} {ifs : List Expr} {scope : Scope} {own : List (Str × Nat)} {pos : Pos} {p : Pth} {tp : TE} {G : Tg} {sl : List Nat} {fc : Fb} {fe : Fx} (hc : X.calm = true) (hN : X.N.Nodup) (he0 : PE X iter tp) (hpth : PthR E p tp) (ok : BlkOk X.N X.env.scope scope own)
    (hg : ∀ l (s : Shared) (H : Hp) (C : Addr) (cl : List (Str × Addr)) (fp : List Addr), PG (X.blk s H scope (compEnvC scope cl C X.env) fp) tg (tG (E.x l) G sl)) (ht : ∀ l (s : Shared) (H : Hp) (C : Addr) (cl : List (Str × Addr)) (fp : List Addr), PTs (X.blk s H scope (compEnvC scope cl C X.env) fp) ifs (tFb (E.x l) W0 fc))
    (he : ∀ l (s : Shared) (H : Hp) (C : Addr) (cl : List (Str × Addr)) (fp : List Addr), PE (X.blk s H scope (compEnvC scope cl C X.env) fp) elt (tF (E.x l) W0 fe)) (hsl : ∀ i ∈ sl, i ∈ own.map (·.2) := by decide) (hs : ∀ x, foldedSetIterable iter X.env x = pure x := by intro _; rfl) :
    PE X (.ListComp elt [⟨tg, iter, ifs, 0⟩] scope pos) (tF E W (vLcD (own.map (·.2)) p G fc fe)) :=
  have h := pe_lc (pos := pos) hc hN (pi_keys he0) ok (fun s H C cl fp => pg_any fun l => hg l s H C cl fp) (fun s H C cl fp => pts_any fun l => ht l s H C cl fp) (fun s H C cl fp => pe_any fun l => he l s H C cl fp) hs
  ((pe_lock h).or h).weak fun _ _ _ => t_lcD hsl hpth
theorem s_setLcD {i : Nat} {y : Str} {py : Pos} {elt tg iter : Expr} {ifs : List Expr} {scope : Scope} {own : List (Str × Nat)} {pos spos : Pos} {p : Pth} {tp : TE} {G : Tg} {sl : List Nat} {fc : Fb} {fe : Fx} (hc : X.calm = true) (hN : X.N.Nodup) (hy : X.N[i]? = some y) (hyl : X.env.scope.names.lookup y = some .local)
    (hsw : swapsWith (.ListComp elt [⟨tg, iter, ifs, 0⟩] scope pos) (some (.Name y py)) spos.line X.env = pure true) (he0 : PE X iter tp) (hpth : PthR E p tp) (ok : BlkOk X.N X.env.scope scope own)
    (hg : ∀ l (s : Shared) (H : Hp) (C : Addr) (cl : List (Str × Addr)) (fp : List Addr), PG (X.blk s H scope (compEnvC scope cl C X.env) fp) tg (tG (E.x l) G sl)) (ht : ∀ l (s : Shared) (H : Hp) (C : Addr) (cl : List (Str × Addr)) (fp : List Addr), PTs (X.blk s H scope (compEnvC scope cl C X.env) fp) ifs (tFb (E.x l) W0 fc))
    (he : ∀ l (s : Shared) (H : Hp) (C : Addr) (cl : List (Str × Addr)) (fp : List Addr), PE (X.blk s H scope (compEnvC scope cl C X.env) fp) elt (tF (E.x l) W0 fe)) (hsl : ∀ i ∈ sl, i ∈ own.map (·.2) := by decide) (hs : ∀ x, foldedSetIterable iter X.env x = pure x := by intro _; rfl) :
    PS X (.Assign [.Name y py] (.ListComp elt [⟨tg, iter, ifs, 0⟩] scope pos) spos) (tS E W (sAsg (vLcD (own.map (·.2)) p G fc fe) (gN i))) :=
  have h := ps_setLc (pos := pos) (spos := spos) (py := py) hc hN hy hyl hsw (pi_keys he0) ok (fun s H C cl fp => pg_any fun l => hg l s H C cl fp) (fun s H C cl fp => pts_any fun l => ht l s H C cl fp) (fun s H C cl fp => pe_any fun l => he l s H C cl fp) hs
  ((ps_lock h).or h).weak fun D σ H ⟨ρ, st, m, j, hp⟩ => by
    have q : tF E W (vLcD (own.map (·.2)) p G fc fe) σ H (fun v H1 => D.nx (σ.set i (some v)) H1) := ⟨ρ, st, m, j, PZ.imp (fun v H1 z => by
      obtain ⟨x, s1, m1, _, e1, k1, js1, r1, q1⟩ := z
      have z : toD D (Fv.nx _) H1 := PZ.ok (v := Fv.nx (σ.set i (some v))) q1 js1 ((j.lc.mono e1 k1).set i r1)
      exact z) (PZ.then (rel := R E) hp)⟩
    rcases t_lcD hsl hpth q with ⟨d, u, h1, h2, h3⟩ | h
    · exact .inl ⟨d, u, h1, h2, fun od => h3 od⟩
    · exact .inr h

/-! ### {k: v for ..}, keys ints and texts -/
def dLoop (g : Tg) (c : Fb) (fk fv : Fx) (ρ : Lo) : List T → List Key → List T → Sto → Z (List Key × List T)
  | [], ks, xs, s => .ok (ks, xs) s
  | x :: rest, ks, xs, s => match g x ρ with
    | none => .bad
    | some ρ' => (noX (c ρ' s)).then fun b s => if b = true then (noX (fk ρ' s)).then fun y s => (noX (fv ρ' s)).then fun z s => match key y with
        | some k => if ks.length < lim then dLoop g c fk fv ρ rest (kput ks xs k z).1 (kput ks xs k z).2 s else .bad
        | none => .bad
      else dLoop g c fk fv ρ rest ks xs s
def vDc (vs : List Nat) (fi : Fa) (g : Tg) (c : Fb) (fk fv : Fx) : Fx := fun ρ st => (fi ρ st).then fun xs s => (dLoop g c fk fv (wipeL ρ vs) xs [] [] s).then fun r s => .ok (.dK r.1 r.2) s
def vDcD (vs : List Nat) (p : Pth) (g : Tg) (c : Fb) (fk fv : Fx) : Fx := fun ρ st => match p ρ st with
  | none => .bad
  | some t => match dictKeys st t with
    | none => .bad
    | some ks => if freeT t st = true then (dLoop g c fk fv (wipeL ρ vs) ks [] [] (lockT t st)).then fun r s => .ok (.dK r.1 r.2) (backT t st s) else .bad
theorem dLoop_cases {g : Tg} {c : Fb} {fk fv : Fx} : ∀ (ts : List T) (ks : List Key) (xs : List T) (s : Sto), (∃ r s', dLoop g c fk fv ρ ts ks xs s = .ok r s') ∨ dLoop g c fk fv ρ ts ks xs s = .bad
  | [], ks, xs, s => .inl ⟨_, s, rfl⟩
  | x :: ts, ks, xs, s => by
    unfold dLoop
    cases g x ρ with
    | none => exact .inr rfl
    | some ρ' =>
      dsimp only
      rcases noX_cases (c ρ' s) with ⟨b, s1, _, h⟩ | h
      case inr => rw [h]; exact .inr rfl
      rw [h]
      simp only [Z.then]
      cases b with
      | false =>
        simp only [Bool.false_eq_true, if_false]
        exact dLoop_cases ts ks xs s1
      | true =>
        simp only [if_true]
        rcases noX_cases (fk ρ' s1) with ⟨y, s2, _, h⟩ | h
        case inr => rw [h]; exact .inr rfl
        rw [h]
        simp only [Z.then]
        rcases noX_cases (fv ρ' s2) with ⟨z, s3, _, h⟩ | h
        case inr => rw [h]; exact .inr rfl
        rw [h]
        simp only [Z.then]
        cases key y with
        | none => exact .inr rfl
        | some k =>
          dsimp only
          by_cases hl : ks.length < lim
          · rw [if_pos hl]; exact dLoop_cases ts _ _ s3
          · rw [if_neg hl]; exact .inr rfl
/-- a comprehension's walk: as lc_it, for a dict -/
theorem dc_it {Jt : It} {n : Nat} {G : Hp → Prop} {Y : Nat → Hp → V → Hp → Prop} (w : Walk Jt n G Y) {g : TG} {tt : TT} {tk tv : TE} {vs : List Nat} {H1 : Hp} {D : Addr} {Qd : Hp → Prop} (Pv : Nat → Hp → Prop) (h0 : Pv 0 (upd H1 D (.dK []))) (hG : ∀ i H, i ≤ n → Pv i H → G H)
    (hs : ∀ i x H H', i < n → Pv i H → Y i H x H' → g x (L2.wipe σ vs) H' fun σ2 H2 => L2.wipe σ2 vs = L2.wipe σ vs ∧ tt σ2 H2 fun b H3 =>
      if b = true then tk σ2 H3 fun y H4 => tv σ2 H4 fun z H5 => ∃ kvs k, y = kV k ∧ H5 D = some (.dK kvs) ∧ kvs.length < sizeLine ∧ Pv (i + 1) (upd H5 D (.dK (putK kvs k z))) else Pv (i + 1) H3) (hd : ∀ H, Pv n H → Qd H) :
    ∃ W' : Nat → Nat → Hp → Prop, (∃ m, W' 0 m (upd H1 D (.dK []))) ∧ ∀ i m H, W' i m H →
      (Jt.stop i H ∧ Qd H) ∨ (Jt.go i H ∧ ∃ Nx : Hp → Prop, (∀ H', Nx H' → ∃ m', m' < m ∧ W' (i + 1) m' H') ∧ ∀ x H', Jt.yld i H x H' → g x (L2.wipe σ vs) H' fun σ2 H2 => L2.wipe σ2 vs = L2.wipe σ vs ∧ tt σ2 H2 fun b H3 =>
        if b = true then tk σ2 H3 fun y H4 => tv σ2 H4 fun z H5 => ∃ kvs k, y = kV k ∧ H5 D = some (.dK kvs) ∧ kvs.length < sizeLine ∧ Nx (upd H5 D (.dK (putK kvs k z))) else Nx H3) := by
  refine ⟨fun i m H => m + i = n ∧ Pv i H, ⟨n, by omega, h0⟩, fun i m H hw => ?_⟩
  obtain ⟨hmi, p⟩ := hw
  have gg := hG i H (by omega) p
  cases m with
  | zero =>
    have e : i = n := by omega
    subst e
    exact .inl ⟨w.stops H gg, hd H p⟩
  | succ m =>
    have hi : i < n := by omega
    exact .inr ⟨w.goes i H hi gg, Pv (i + 1), fun H' p' => ⟨m, by omega, by omega, p'⟩, fun x H' y => hs i x H H' hi p (w.yields i H x H' hi gg y)⟩
theorem dc_coreF {G : Tg} {sl vs : List Nat} {fc : Fb} {fk fv : Fx} {Qd : Addr → Hp → Prop} {ts : List T} {r : List Key × List T} {Jt : It} {m1 : Ma} {H1 : Hp} {s1 sF : Sto} (hsl : ∀ i ∈ sl, i ∈ vs) (hwk : Wk E m1 H1 Jt ts) (lc1 : Lc E m1 H1 (wipeL ρ vs) (L2.wipe σ vs)) (js1 : JS E m1 s1 H1)
    (hz : dLoop G fc fk fv (wipeL ρ vs) ts [] [] s1 = .ok r sF) (q1 : ∀ D H' m', Ext m1 m' H1 → Keep m1 H1 H' → JS E m' sF H' → R E m' H' (.dK r.1 r.2) (.ref D) → Qd D H') : ∀ D, H1 D = none →
    ∃ W' : Nat → Nat → Hp → Prop, (∃ m, W' 0 m (upd H1 D (.dK []))) ∧ ∀ i m H, W' i m H →
      (Jt.stop i H ∧ Qd D H) ∨ (Jt.go i H ∧ ∃ Nx : Hp → Prop, (∀ H', Nx H' → ∃ m', m' < m ∧ W' (i + 1) m' H') ∧ ∀ x H', Jt.yld i H x H' → anyG E G sl x (L2.wipe σ vs) H' fun σ2 H2 => L2.wipe σ2 vs = L2.wipe σ vs ∧ anyT E fc σ2 H2 fun b H3 =>
        if b = true then anyE E fk σ2 H3 fun y H4 => anyE E fv σ2 H4 fun z H5 => ∃ kvs k, y = kV k ∧ H5 D = some (.dK kvs) ∧ kvs.length < sizeLine ∧ Nx (upd H5 D (.dK (putK kvs k z))) else Nx H3) := by
  obtain ⟨GG, Y, hw, hG, hY⟩ := hwk
  intro D nD
  have hx : Exs E H1 (D :: E.ex) := fun d hd => (List.mem_cons.mp hd).elim (fun z => .inr (by rw [z]; exact nD)) .inl
  have hD : D ∈ (E.x (D :: E.ex)).ex := by simp
  refine dc_it hw (fun i H' => ∃ (ks : List Key) (xs : List T) (vv : List V) (s' : Sto) (m' : Ma), dLoop G fc fk fv (wipeL ρ vs) (ts.drop i) ks xs s' = .ok r sF ∧ Ext m1 m' H1 ∧ Keep m1 H1 H' ∧
      JS (E.x (D :: E.ex)) m' s' H' ∧ H' D = some (.dK (ks.zip vv)) ∧ ks.length = vv.length ∧ Rs (E.x (D :: E.ex)) m' H' xs vv)
    ⟨[], [], [], s1, m1, hz, .refl, keep_new nD, js1.begin nD rfl, upd_same, rfl, rfl⟩ (fun i H' _ ⟨_, _, _, _, m', _, e, k, _⟩ => hG m' H' e k) ?_ ?_
  · rintro i x H' H'' hi ⟨ks, xs, vv, s', m', hc, e2, k2, js2, hDl, hkl, hr⟩ y
    have hi' : ts[i]? = some ts[i] := List.getElem?_eq_getElem hi
    obtain ⟨k3, js3, r3⟩ := hY (D :: E.ex) i _ x m' s' H' H'' hx hi' e2 k2 js2 y
    have k13 : Keep m1 H1 H'' := k2.trans e2 k3
    rw [List.drop_eq_getElem_cons hi] at hc
    unfold dLoop at hc
    cases hg : G ts[i] (wipeL ρ vs) with
    | none => rw [hg] at hc; cases hc
    | some ρ' =>
      rw [hg] at hc
      dsimp only at hc
      refine ⟨D :: E.ex, ts[i], wipeL ρ vs, ρ', m', r3, lc1.monoX hx e2 k13, hg, fun σ2 wp l2 => ⟨wp vs hsl |>.trans ?_, ?_⟩⟩
      · apply List.ext_getElem?
        intro j2
        rw [wipe_get, wipe_get, wipe_length]
        by_cases hj : j2 ∈ vs ∧ j2 < σ.length
        · rw [if_pos hj, if_pos hj]
        · rw [if_neg hj]
      rcases noX_cases (fc ρ' s') with ⟨b, s4, hb0, hb⟩ | hb
      case inr => rw [hb] at hc; cases hc
      rw [hb] at hc
      simp only [Z.then] at hc
      refine ⟨D :: E.ex, ρ', s', m', l2.j js3, ?_⟩
      rw [hb0]
      intro b' H4 m4 e4 k4 js4 rb
      cases rb
      have dm : D ∉ m'.ad := fun z => js3.dis D z hD
      have hD3 : H'' D = some (.dK (ks.zip vv)) := k3 D _ (nf dm) hDl
      have D4 : H4 D = some (.dK (ks.zip vv)) := k4 D _ (nf dm) hD3
      cases b with
      | true =>
        rw [if_pos rfl] at hc ⊢
        rcases noX_cases (fk ρ' s4) with ⟨y1, s5, hy0, hy⟩ | hy
        case inr => rw [hy] at hc; cases hc
        rw [hy] at hc
        simp only [Z.then] at hc
        have l4 := l2.mono e4 k4
        refine ⟨D :: E.ex, ρ', s4, m4, l4.j js4, ?_⟩
        rw [hy0]
        intro yv H5 m5 e5 k5 js5 ry
        rcases noX_cases (fv ρ' s5) with ⟨z1, s6, hz0, hz1⟩ | hz1
        case inr => rw [hz1] at hc; cases hc
        rw [hz1] at hc
        simp only [Z.then] at hc
        refine ⟨D :: E.ex, ρ', s5, m5, (l4.mono e5 k5).j js5, ?_⟩
        rw [hz0]
        intro zv H6 m6 e6 k6 js6 rz
        cases hk : key y1 with
        | none => rw [hk] at hc; cases hc
        | some kk =>
          rw [hk] at hc
          dsimp only at hc
          by_cases hlm : ks.length < lim
          case neg => rw [if_neg hlm] at hc; cases hc
          rw [if_pos hlm] at hc
          have dm4 : D ∉ m4.ad := fun z => js4.dis D z hD
          have dm5 : D ∉ m5.ad := fun z => js5.dis D z hD
          have D6 : H6 D = some (.dK (ks.zip vv)) := k6 D _ (nf dm5) (k5 D _ (nf dm4) D4)
          have ee4 : Ext m1 m4 H1 := e2.trans k13 e4
          have kk4 : Keep m1 H1 H4 := k13.trans e2 k4
          have ee5 := ee4.trans kk4 e5
          have kk5 := kk4.trans ee4 k5
          have ee6 := ee5.trans kk5 e6
          have kk6 := kk5.trans ee5 k6
          have hr6 : Rs (E.x (D :: E.ex)) m6 H6 xs vv := (((hr.mono .refl k3).mono e4 k4).mono e5 k5).mono e6 k6
          obtain ⟨ws, p1, p2, p3⟩ := kput_ok (k := kk) hkl hr6 rz
          refine ⟨ks.zip vv, kk, key_ok hk ry, D6, by rw [List.length_zip, ← hkl, Nat.min_self]; exact lim_lt (Nat.le_of_lt hlm), _, _, ws, s6, m6, hc, ee6, ?_, js6.wr hD rfl, by rw [p1]; exact upd_same, p2, Rs.wr hD p3⟩
          intro a o na ha
          rw [upd_ne (ne_of_none ha nD)]
          exact kk6 a o na ha
      | false =>
        rw [if_neg Bool.false_ne_true] at hc ⊢
        exact ⟨ks, xs, vv, s4, m4, hc, e2.trans k13 e4, k13.trans e2 k4, js4, D4, hkl, (hr.mono .refl k3).mono e4 k4⟩
  · rintro H' ⟨ks, xs, vv, s', m', hc, e2, k2, js2, hDl, hkl, hr⟩
    rw [List.drop_length] at hc
    cases hc
    have lss : ∀ d ∈ E.ex, d ∈ (D :: E.ex) := fun d hd => List.mem_cons_of_mem _ hd
    exact q1 D H' m' e2 k2 (js2.less lss) ⟨D, vv, rfl, ⟨fun z => js2.dis D z hD, fun z => js1.exn z nD⟩, .inl hDl, hkl, hr.less lss⟩
theorem x_dc {kx vx tg iter : Expr} {ifs : List Expr} {scope : Scope} {own : List (Str × Nat)} {pos : Pos} {fi : Fa} {G : Tg} {sl : List Nat} {fc : Fb} {fk fv : Fx} (hc : X.calm = true) (hN : X.N.Nodup) (hi : PI X tg iter (tI E W fi)) (ok : BlkOk X.N X.env.scope scope own)
    (hg : ∀ l (s : Shared) (H : Hp) (C : Addr) (cl : List (Str × Addr)) (fp : List Addr), PG (X.blk s H scope (compEnvC scope cl C X.env) fp) tg (tG (E.x l) G sl)) (ht : ∀ l (s : Shared) (H : Hp) (C : Addr) (cl : List (Str × Addr)) (fp : List Addr), PTs (X.blk s H scope (compEnvC scope cl C X.env) fp) ifs (tFb (E.x l) W0 fc))
    (hk : ∀ l (s : Shared) (H : Hp) (C : Addr) (cl : List (Str × Addr)) (fp : List Addr), PE (X.blk s H scope (compEnvC scope cl C X.env) fp) kx (tF (E.x l) W0 fk)) (he : ∀ l (s : Shared) (H : Hp) (C : Addr) (cl : List (Str × Addr)) (fp : List Addr), PE (X.blk s H scope (compEnvC scope cl C X.env) fp) vx (tF (E.x l) W0 fv))
    (hsl : ∀ i ∈ sl, i ∈ own.map (·.2) := by decide) (hs : ∀ x, foldedSetIterable iter X.env x = pure x := by intro _; rfl) :
    PE X (.DictComp kx vx [⟨tg, iter, ifs, 0⟩] scope pos) (tF E W (vDc (own.map (·.2)) fi G fc fk fv)) :=
  (pe_dc hc hN hi ok (fun s H C cl fp => pg_any fun l => hg l s H C cl fp) (fun s H C cl fp => pts_any fun l => ht l s H C cl fp) (fun s H C cl fp => pe_any fun l => hk l s H C cl fp) (fun s H C cl fp => pe_any fun l => he l s H C cl fp) hs).weak fun σ H Q ⟨ρ, st, m, j, hp⟩ => by
    refine ⟨ρ, st, m, j, PZ.imp (fun Jt H1 z => ?_) (PZ.then (rel := fun m' H' ts J => Wk E m' H' J ts) hp)⟩
    obtain ⟨ts, s1, m1, _, e1, k1, js1, hwk, q1⟩ := z
    rcases dLoop_cases (g := G) (c := fc) (fk := fk) (fv := fv) (ρ := wipeL ρ (own.map (·.2))) ts [] [] s1 with ⟨r, sF, hz⟩ | hz
    case inr => rw [hz] at q1; exact q1.elim
    rw [hz] at q1
    exact dc_coreF hsl hwk ((j.lc.mono e1 k1).wipe _) js1 hz fun D H' m' e k js r => q1 (.ref D) H' m' e k js r
theorem x_dcD {kx vx tg iter : Expr} {ifs : List Expr} {scope : Scope} {own : List (Str × Nat)} {pos : Pos} {p : Pth} {tp : TE} {G : Tg} {sl : List Nat} {fc : Fb} {fk fv : Fx} (hc : X.calm = true) (hN : X.N.Nodup) (he0 : PE X iter tp) (hpth : PthR E p tp) (ok : BlkOk X.N X.env.scope scope own)
    (hg : ∀ l (s : Shared) (H : Hp) (C : Addr) (cl : List (Str × Addr)) (fp : List Addr), PG (X.blk s H scope (compEnvC scope cl C X.env) fp) tg (tG (E.x l) G sl)) (ht : ∀ l (s : Shared) (H : Hp) (C : Addr) (cl : List (Str × Addr)) (fp : List Addr), PTs (X.blk s H scope (compEnvC scope cl C X.env) fp) ifs (tFb (E.x l) W0 fc))
    (hk : ∀ l (s : Shared) (H : Hp) (C : Addr) (cl : List (Str × Addr)) (fp : List Addr), PE (X.blk s H scope (compEnvC scope cl C X.env) fp) kx (tF (E.x l) W0 fk)) (he : ∀ l (s : Shared) (H : Hp) (C : Addr) (cl : List (Str × Addr)) (fp : List Addr), PE (X.blk s H scope (compEnvC scope cl C X.env) fp) vx (tF (E.x l) W0 fv))
    (hsl : ∀ i ∈ sl, i ∈ own.map (·.2) := by decide) (hs : ∀ x, foldedSetIterable iter X.env x = pure x := by intro _; rfl) :
    PE X (.DictComp kx vx [⟨tg, iter, ifs, 0⟩] scope pos) (tF E W (vDcD (own.map (·.2)) p G fc fk fv)) := by
  have h := pe_dc (pos := pos) hc hN (pi_keys he0) ok (fun s H C cl fp => pg_any fun l => hg l s H C cl fp) (fun s H C cl fp => pts_any fun l => ht l s H C cl fp) (fun s H C cl fp => pe_any fun l => hk l s H C cl fp) (fun s H C cl fp => pe_any fun l => he l s H C cl fp) hs
  refine ((pe_lock h).or h).weak fun σ H Q ⟨ρ, st, m, j, hp⟩ => ?_
  unfold vDcD at hp
  cases hpt : p ρ st with
  | none => rw [hpt] at hp; exact hp.elim
  | some t =>
    rw [hpt] at hp
    dsimp only at hp
    cases hks : dictKeys st t with
    | none => rw [hks] at hp; exact hp.elim
    | some ks =>
      rw [hks] at hp
      dsimp only at hp
      by_cases hf : freeT t st = true
      case neg => rw [if_neg hf] at hp; exact hp.elim
      rw [if_pos hf] at hp
      rcases dLoop_cases (g := G) (c := fc) (fk := fk) (fv := fv) (ρ := wipeL ρ (own.map (·.2))) ks [] [] (lockT t st) with ⟨r2, sF, hz⟩ | hz
      case inr => rw [hz] at hp; exact hp.elim
      rw [hz] at hp
      simp only [Z.then] at hp
      obtain ⟨v, r, hv⟩ := hpth E.ex m ρ st σ H t j hpt
      obtain ⟨d, u, rfl, hu, rd, hwk⟩ := dictKeys_ok (E := E) hks j.sto r
      rcases rd with hd | ⟨o, hd⟩
      · refine .inl ⟨d, u, hd, mut_dc hu, fun od => ?_⟩
        obtain ⟨m', had, js', nfd, back⟩ := lock_ok (E := E) hks j.sto r hd hu od
        obtain ⟨Jt, wk, fin⟩ := hwk m' (upd H d (.frz od u)) od upd_same nfd
        have sw := sw_lock (od := od) hd hu
        have key : ∀ Rr : It → Hp → Prop, Rr Jt (upd H d (.frz od u)) → iKeys tp σ (upd H d (.frz od u)) Rr := fun Rr q => hv _ sw _ ⟨d, od, rfl, fin Rr q⟩
        refine key _ (dc_coreF (Qd := fun D H' => H' d = some (.frz od u) ∧ Q (.ref D) (upd H' d u)) hsl wk ((j.lc.sw sw had).wipe _) js' hz fun D H2 m2 e k js2 rr => ?_)
        obtain ⟨m3, had3, ext3, keep3, js3, h2⟩ := back m2 H2 sF e k js2
        exact ⟨h2, hp (.ref D) _ m3 ext3 keep3 js3 (R.sw (sw_unlock h2 hu) had3 rr)⟩
      · obtain ⟨l1, l2⟩ := tree_free (E := E) j.sto r hd hf
        rw [l1] at hz
        rw [l2] at hp
        obtain ⟨Jt, wk, fin⟩ := hwk m H o hd (nofre j.sto hd)
        have key : ∀ Rr : It → Hp → Prop, Rr Jt H → iKeys tp σ H Rr := fun Rr q => hv H .refl _ ⟨d, o, rfl, fin Rr q⟩
        exact .inr (key _ (dc_coreF (Qd := fun D H' => Q (.ref D) H') hsl wk (j.lc.wipe _) j.sto hz fun D H2 m2 e k js2 rr => hp (.ref D) H2 m2 e k js2 rr))
end
end Sh

set_option Elab.async false
set_option linter.all false
set_option maxRecDepth 100000
set_option maxHeartbeats 4000000
namespace Sh
open PySem PySem.Spec PyProof.Rows L2
section
variable {E : RE} {W : XK} {m m' : Ma} {H H' : Hp} {st s s' : Sto} {X : Cx} {t : T} {v : V} {e tg : Expr} {fe : Fx} {pos p : Pos}
/-! ### more walks -/
/-- the signs of a text -/
def iStrF (f : Fx) : Fa := fun ρ st => (f ρ st).then fun t s => match t with
  | .str x => if x.cps.size ≤ lim then .ok (x.cps.toList.map fun c => T.str ⟨#[c]⟩) s else .bad
  | _ => .bad
theorem Wk.str {x : Str} : Wk E m H (Its x) (x.cps.toList.map fun c => T.str ⟨#[c]⟩) := by
  refine ⟨fun _ => True, _, by rw [List.length_map, Array.length_toList]; exact walk_str, fun _ _ _ _ => trivial, ?_⟩
  rintro l i t y m' s' H' H'' _ hi _ _ js ⟨rfl, c, h1, rfl⟩
  rw [List.getElem?_map, Array.getElem?_toList, h1] at hi
  cases hi
  exact ⟨.refl, js, rfl⟩
theorem i_str (he : PE X e (tF E W fe)) : PI X tg e (tI E W (iStrF fe)) := (pi_str he).weak fun σ H Q ⟨ρ, st, m, j, hp⟩ => by
  refine ⟨ρ, st, m, j, PZ.imp (fun v H1 z => ?_) (PZ.then (rel := R E) hp)⟩
  obtain ⟨y, s1, m1, _, e1, k1, js1, r1, q1⟩ := z
  cases y with
  | str x =>
    dsimp only at q1
    by_cases hx : x.cps.size ≤ lim
    · rw [if_pos hx] at q1
      exact ⟨x, r1, PZ.ok q1 js1 Wk.str⟩
    · rw [if_neg hx] at q1; exact q1.elim
  | _ => exact q1.elim
/-- lo, lo + c, .. -/
def rngC (c : Int) (lo : Int) : Nat → List T
  | 0 => []
  | n + 1 => .int lo :: rngC c (lo + c) n
theorem rngC_len (c : Int) : ∀ (n : Nat) (lo : Int), (rngC c lo n).length = n
  | 0, _ => rfl
  | n + 1, lo => by unfold rngC; rw [List.length_cons, rngC_len c n]
theorem rngC_at (c : Int) : ∀ (n : Nat) (lo : Int) (i : Nat) (t : T), (rngC c lo n)[i]? = some t → t = .int (lo + i * c)
  | 0, _, _, _, h => by simp [rngC] at h
  | n + 1, lo, 0, t, h => by simp [rngC] at h; simp [h]
  | n + 1, lo, i + 1, t, h => by
    simp [rngC] at h
    rw [rngC_at c n (lo + c) i t h]
    congr 1
    rw [Int.natCast_add, Int.add_mul]
    omega
theorem Wk.rngC {lo c : Int} {n : Nat} : Wk E m H (Itc lo c n) (rngC c lo n) :=
  ⟨fun _ => True, YFn fun i => .int (lo + (i : Int) * c), by rw [rngC_len]; exact walk_rangeC, fun _ _ _ _ => trivial, fun l i t x m' s' H' H'' _ hi _ _ js ⟨eH, ex⟩ => by
    subst eH ex
    rw [rngC_at c n lo i t hi]
    exact ⟨.refl, js, rfl⟩⟩
def asI3 : List T → Option (Int × Int × Int)
  | [.int i, .int j, .int c] => some (i, j, c)
  | _ => none
theorem asI3_ok {ts : List T} {vs : List V} {i j c : Int} (h : asI3 ts = some (i, j, c)) (r : Rs E m H ts vs) : vs = [.int i, .int j, .int c] := by
  unfold asI3 at h
  split at h
  · cases h
    obtain ⟨u, w, rfl, r2, u2, w2, rfl, r3, u3, w3, rfl, r4, r5⟩ := r
    cases (show u = _ from r2)
    cases (show u2 = _ from r3)
    cases (show u3 = _ from r4)
    cases (show w3 = [] from r5)
    rfl
  · cases h
/-- how many, where the step is not 0 -/
def rgN (i j c : Int) : Nat := (Builtin.Range.rangeSize i j c).toNat
def rgCOk (i j c : Int) : Bool := decide (c ≠ 0) && decide (c.natAbs < 1000) && Builtin.Range.small i j c && decide (0 ≤ Builtin.Range.rangeSize i j c)
theorem rgC_ok {i j c : Int} (h : rgCOk i j c = true) : RgC i j c (rgN i j c) := by
  unfold rgCOk at h
  simp only [Bool.and_eq_true, decide_eq_true_eq] at h
  obtain ⟨⟨⟨h1, h2⟩, h3⟩, h4⟩ := h
  exact ⟨h1, Nat.lt_trans h2 (by decide), h3, by unfold rgN; omega⟩
def iRange3 (fa : Fa) : Fa := fun ρ st => (fa ρ st).then fun vs s => match asI3 vs with
  | some (i, j, c) => if rgCOk i j c = true then .ok (rngC c i (rgN i j c)) s else .bad
  | none => .bad
theorem i_range3 {a b c : Expr} {fa : Fa} (hm : X.mg "range" = none) (ha : PA X [a, b, c] (tFs E W fa)) (hg : Gl X "range" := by rfl) (hs : starEach [a, b, c] X.env = (false, eval a X.env) :: starEach [b, c] X.env := by rfl) (hpl : (backTo pos (starEach [b, c] X.env)).any (·.1) = false := by rfl) : PI X tg (.Call (.Name "range" p) [a, b, c] [] pos) (tI E W (iRange3 fa)) := (pi_range3 hg hm ha hs hpl).weak fun σ H Q ⟨ρ, st, m, j, hp⟩ => by
  refine ⟨ρ, st, m, j, PZ.imp (fun v H1 z => ?_) (PZ.then (rel := Rs E) hp)⟩
  obtain ⟨x, s1, m1, _, e1, k1, js1, r1, q1⟩ := z
  cases hx : asI3 x with
  | none => rw [hx] at q1; exact q1.elim
  | some y =>
    obtain ⟨i, n, c⟩ := y
    rw [hx] at q1
    dsimp only at q1
    cases asI3_ok hx r1
    by_cases hn : rgCOk i n c = true
    · rw [if_pos hn] at q1
      exact ⟨i, n, c, _, rfl, rgC_ok hn, PZ.ok q1 js1 Wk.rngC⟩
    · rw [if_neg hn] at q1; exact q1.elim

/-! ### more of whole numbers -/
def hMax : List T → Sto → Z T := fun ts s => match asI2 ts with | some (i, j) => .ok (.int (if j > i then j else i)) s | none => .bad
def hMin : List T → Sto → Z T := fun ts s => match asI2 ts with | some (i, j) => .ok (.int (if j < i then j else i)) s | none => .bad
theorem c_max2 (hc : X.calm = true) : CallR X (.builtin "max") (rFc E W hMax) := by
  intro pins sh σ H xs us Q I r ⟨as, st, m, js, ra, q⟩
  unfold hMax at q
  cases hx : asI2 as with
  | none => rw [hx] at q; exact q.elim
  | some y =>
    obtain ⟨i, j⟩ := y
    rw [hx] at q
    exact call_max2 hc pins sh σ H _ us Q I r ⟨i, j, asI2_ok hx ra, PZ.ok q js rfl⟩
theorem c_min2 (hc : X.calm = true) : CallR X (.builtin "min") (rFc E W hMin) := by
  intro pins sh σ H xs us Q I r ⟨as, st, m, js, ra, q⟩
  unfold hMin at q
  cases hx : asI2 as with
  | none => rw [hx] at q; exact q.elim
  | some y =>
    obtain ⟨i, j⟩ := y
    rw [hx] at q
    exact call_min2 hc pins sh σ H _ us Q I r ⟨i, j, asI2_ok hx ra, PZ.ok q js rfl⟩
def hPow := hI2 (fun i j => decide (0 ≤ j ∧ j ≤ 1000 ∧ i.natAbs < 1000000)) fun i j => i ^ j.toNat
theorem o_pow : OpR X (binaryOp .Pow) (rF2 E W hPow) := o_int op_pow fun i j h => by
  have z := of_decide_eq_true h
  exact ⟨z.1, Int.le_trans z.2.1 (by decide), Nat.lt_trans z.2.2 (by decide)⟩
/-- // of great numbers -/
def hDivW := hI2 (fun _ j => decide (0 < j) && decide (j.natAbs.log2 < 9000)) fun i j => i / j
theorem o_divW : OpR X (binaryOp .FloorDiv) (rF2 E W hDivW) := o_int op_fdivW fun i j h => by
  rw [Bool.and_eq_true] at h
  exact ⟨of_decide_eq_true h.1, of_decide_eq_true h.2⟩
/-- * of great numbers -/
def hMulW := hI2 (fun i j => decide (i.natAbs.log2 + j.natAbs.log2 < 1000000)) fun i j => i * j
theorem o_mulW : OpR X (binaryOp .Mult) (rF2 E W hMulW) := o_int op_mulW fun i j h => by have z := of_decide_eq_true h; exact z
end
end Sh

set_option Elab.async false
set_option linter.all false
set_option maxRecDepth 100000
set_option maxHeartbeats 4000000
namespace Sh
open PySem PySem.Spec PyProof.Rows L2
/-! ### one of two readings -/
def zOr {α : Type} : Z α → Z α → Z α
  | .bad, z => z
  | .ok a s, _ => .ok a s
  | .exc c x s, _ => .exc c x s
theorem zOr_is {α : Type} (a b : Z α) : zOr a b = a ∨ zOr a b = b := by cases a <;> first | exact .inl rfl | exact .inr rfl
def or1 (h h' : T → Sto → Z T) : T → Sto → Z T := fun a s => zOr (h a s) (h' a s)
def or2 (h h' : T → T → Sto → Z T) : T → T → Sto → Z T := fun a b s => zOr (h a b s) (h' a b s)
def orA (h h' : List T → Sto → Z T) : List T → Sto → Z T := fun a s => zOr (h a s) (h' a s)
section
variable {X : Cx} {E : RE} {W : XK} {e : Expr} {fa fb : Fx} {fs : Fa}
theorem x_alt {f f' g : Fx} (a : PE X e (tF E W f)) (b : PE X e (tF E W f')) (h : ∀ ρ st, g ρ st = f ρ st ∨ g ρ st = f' ρ st) : PE X e (tF E W g) := (a.or b).weak fun σ H Q ⟨ρ, st, m, j, hp⟩ => by
  rcases h ρ st with z | z
  · exact .inl ⟨ρ, st, m, j, by rw [← z]; exact hp⟩
  · exact .inr ⟨ρ, st, m, j, by rw [← z]; exact hp⟩
theorem then_or {α β : Type} {z : Z α} {k k' g : α → Sto → Z β} (h : ∀ a s, g a s = k a s ∨ g a s = k' a s) : z.then g = z.then k ∨ z.then g = z.then k' := by
  cases z with
  | ok a s => exact h a s
  | exc c x s => exact .inl rfl
  | bad => exact .inl rfl
theorem x_or1 {h h' : T → Sto → Z T} (a : PE X e (tF E W (v1 h fa))) (b : PE X e (tF E W (v1 h' fa))) : PE X e (tF E W (v1 (or1 h h') fa)) := x_alt a b fun ρ st => then_or fun _ _ => zOr_is _ _
theorem x_or2 {h h' : T → T → Sto → Z T} (a : PE X e (tF E W (v2 h fa fb))) (b : PE X e (tF E W (v2 h' fa fb))) : PE X e (tF E W (v2 (or2 h h') fa fb)) := x_alt a b fun ρ st => by
  unfold v2
  cases fa ρ st with
  | ok x s => exact then_or (z := fb ρ s) fun _ _ => zOr_is _ _
  | exc c x s => exact .inl rfl
  | bad => exact .inl rfl
theorem x_orA {h h' : List T → Sto → Z T} (a : PE X e (tF E W (vA h fs))) (b : PE X e (tF E W (vA h' fs))) : PE X e (tF E W (vA (orA h h') fs)) := x_alt a b fun ρ st => then_or fun _ _ => zOr_is _ _
end

/-! ### a class's own special method -/
structure Own (X : Cx) (E : RE) (c0 : Nat) (mn : Str) (k n : Nat) (FF : List T → Sto → Z T) : Prop where
  ex : ∃ (g : Addr) (fd : FuncData) (ps : List Str), PySem.W.findIn X.K (.ref (E.ca c0)) mn = some (some (.ref g)) ∧ PySem.W.isFn X.K (.ref g) = true ∧ PySem.W.fnIn X.K g = true ∧ OkF X E k g fd ps n FF ∧ Binds X.K fd ps []
  hF : ∀ as st, as.length ≠ n → FF as st = .bad
section
variable {X : Cx} {E : RE} {W : XK} {c0 k n : Nat} {mn : Str} {FF : List T → Sto → Z T} {m : Ma} {st : Sto} {H : Hp} {s : Shared} {σ : L2.St} {pins : List (Addr × Obj)} {as : List T} {vs : List V} {us : List Value} {Q : VK}
theorem sub_env0 {A : Around} (I : Inv X pins σ H s) (sb : L2.Sub X k A) : Env0 X.prog X.w X.K X.mg X.base A X.stack s H :=
  { I.env0 with frames := by have z := I.env0.frames; rw [← sb.fr] at z; exact z }
/-- the method runs, anywhere below -/
theorem own_run (O : Own X E c0 mn k n FF) {A : Around} (sb : L2.Sub X k A) (hx : Passes (L2.CX X.prog X.w) X W) (I : Inv X pins σ H s) (r : Vals vs us) (js : JS E m st H) (rs : Rs E m H as vs) (hp : PZ E W (R E) m H Q (FF as st)) :
    ∃ g : Addr, PySem.W.findIn X.K (.ref (E.ca c0)) mn = some (some (.ref g)) ∧ PySem.W.isFn X.K (.ref g) = true ∧ PySem.W.fnIn X.K g = true ∧ codeAny (model X.prog X.w) A (.call (.ref g) ⟨us, []⟩) (fun r s' => match r with | .ok (.ret v) => EP X pins σ Q v s' | .ok _ => False | .error e => X.xe e s') s := by
  obtain ⟨g, fd, ps, h1, h2, h3, F, hb⟩ := O.ex
  have sp := sp_of js rs (len_of O.hF rs hp) hp
  have l := F.len _ _ _ _ sp
  refine ⟨g, h1, h2, h3, codeAny_mono (F.run A X.stack s H ⟨us, []⟩ us vs Q W sb.room (sub_env0 I sb) ?_ r sp) fun z s' hz => ?_⟩
  · have q := hb s us I.kIn (by rw [List.append_nil, ← r.length]; exact l)
    rw [List.append_nil] at q
    exact q
  · rcases z with e | fl
    · exact hx pins σ H s e s' I hz
    · rcases fl with u | _ | _ | _
      all_goals first | exact False.elim hz | exact I.after hz | skip
/-- the instance that stands for the tree -/
theorem ins_at {t : T} {v : V} {u : Value} {ns : List Str} {xs : List T} (I : Inv X pins σ H s) (hi : insOf E.fn c0 st t = some (ns, xs)) (js : JS E m st H) (rt : R E m H t v) (rv : RelV v u) : ∃ a ox od, v = .ref a ∧ u = .ref a ∧ PySem.W.InstAt s.heap a ox (E.ca c0) od ∧ ox.data = .plain := by
  obtain ⟨a, dx, vs, rfl, ha, _, _⟩ := insOf_ok hi js rt
  obtain ⟨mA, O, _⟩ := ins_get I.hok ha
  obtain ⟨od, J, _⟩ := O.look
  cases rv
  exact ⟨a, _, _, rfl, rfl, J, rfl⟩
theorem room_sub (hr : Room k X.A) : L2.Sub X k X.A := ⟨hr, rfl⟩
end
/-! -o, x in o, o[i], len(o), o - x, o == x by values -/
def hOwn1 (fn : Nat → List Str) (c0 : Nat) (FF : List T → Sto → Z T) : T → Sto → Z T := fun t s => match insOf fn c0 s t with
  | some _ => FF [t] s
  | none => .bad
def hOwn2 (fn : Nat → List Str) (c0 : Nat) (FF : List T → Sto → Z T) : T → T → Sto → Z T := fun t u s => match insOf fn c0 s t with
  | some _ => FF [t, u] s
  | none => .bad
def blZ (p : Bool → Bool) (z : Z T) : Z T := z.then fun t s => match t with | .bl b => .ok (.bl (p b)) s | _ => .bad
def hInO (fn : Nat → List Str) (c0 : Nat) (p : Bool → Bool) (FF : List T → Sto → Z T) : T → T → Sto → Z T := fun a b s => blZ p (hOwn2 fn c0 FF b a s)
section
variable {X : Cx} {E : RE} {W : XK} {c0 k n : Nat} {FF : List T → Sto → Z T} {m : Ma} {st : Sto} {H : Hp} {a b e : Expr} {fa fb fe : Fx} {pos p : Pos}
theorem u_own (O : Own X E c0 "__neg__" k n FF) (hr : Room k X.A) (hx : Passes (L2.CX X.prog X.w) X W) : UnR X (unaryOp .USub) (rF1 E W (hOwn1 E.fn c0 FF)) := by
  intro pins s σ H x v Q I rx ⟨t, st, m, js, ra, q⟩
  unfold hOwn1 at q
  cases hi : insOf E.fn c0 st t with
  | none => rw [hi] at q; exact q.elim
  | some p =>
    rw [hi] at q
    obtain ⟨a, ox, od, rfl, rfl, J, _⟩ := ins_at (ns := p.1) (xs := p.2) I hi js ra rx
    obtain ⟨g, h1, h2, h3, hc⟩ := own_run O (room_sub hr) hx I (us := [.ref a]) (.cons rx .nil) js (as := [t]) ⟨_, _, rfl, ra, rfl⟩ q
    obtain ⟨mm, hF⟩ := I.fr
    exact PySem.W.ksp_neg hF I.ok.mod.kin J h1 h2 (wpAny_call hc)
theorem x_neg (O : UnR X (unaryOp .USub) (rF1 E W h)) (he : PE X e (tF E W fe)) : PE X (.UnaryOp .USub e pos) (tF E W (v1 h fe)) := (pe_un O he).weak fun σ H Q ⟨ρ, st, m, j, hp⟩ => by
  refine ⟨ρ, st, m, j, PZ.imp (fun v H1 z => ?_) (PZ.then (rel := R E) hp)⟩
  obtain ⟨y, s1, m1, _, e1, k1, js1, r1, q1⟩ := z
  exact ⟨y, s1, m1, js1, r1, q1⟩
def hNeg : T → Sto → Z T := fun t s => match t with | .int i => .ok (.int (-i)) s | _ => .bad
theorem u_neg : UnR X (unaryOp .USub) (rF1 E W hNeg) := by
  intro pins s σ H x v Q I rx ⟨t, st, m, js, ra, q⟩
  unfold hNeg at q
  split at q
  · exact un_neg pins s σ H x v Q I rx ⟨_, ra, PZ.ok q js rfl⟩
  · exact q.elim
theorem bl_back {m : Ma} {H : Hp} {st : Sto} {Q : VK} {g : Bool → Bool} {z : Z T} (hp : PZ E W (R E) m H Q (blZ g z)) : PZ E W (R E) m H (fun v H' => ∃ b, v = .bl b ∧ Q (.bl (g b)) H') z :=
  PZ.imp (fun v H1 y => by
    obtain ⟨t, s1, m1, _, e1, k1, js1, r1, q1⟩ := y
    cases t with
    | bl b => exact ⟨b, r1, PZ.ok q1 js1 rfl⟩
    | _ => exact q1.elim) (PZ.then (rel := R E) hp)
theorem o_inO (O : Own X E c0 "__contains__" k n FF) (hr : Room k X.A) (hx : Passes (L2.CX X.prog X.w) X W) : OpR X (compareOp .In) (rF2 E W (hInO E.fn c0 (fun b => b) FF)) := by
  intro pins s σ H x y v u Q I rx ry ⟨t, d, st, m, js, ra, rb, q⟩
  have q2 := bl_back (st := st) q
  unfold hOwn2 at q2
  cases hi : insOf E.fn c0 st d with
  | none => rw [hi] at q2; exact q2.elim
  | some p =>
    rw [hi] at q2
    obtain ⟨a, ox, od, rfl, rfl, J, _⟩ := ins_at (ns := p.1) (xs := p.2) I hi js rb ry
    obtain ⟨g, h1, h2, h3, hc⟩ := own_run O (room_sub hr) hx I (us := [.ref a, v]) (.cons ry (.cons rx .nil)) js (as := [d, t]) ⟨_, _, rfl, rb, _, _, rfl, ra, rfl⟩ q2
    obtain ⟨mm, hF⟩ := I.fr
    refine PySem.W.in_K hF I.ok.mod.kin J h1 h2 (wpAny_mono (wpAny_call hc) (fun r s' z => ?_) fun _ _ z => z)
    obtain ⟨w, H', I', rw', b, rfl, qz⟩ := z
    cases (show r = Value.bool b from rw')
    exact wpAny_truthy_bool ⟨.bl b, H', I', rfl, qz⟩
theorem o_notinO (O : Own X E c0 "__contains__" k n FF) (hr : Room k X.A) (hx : Passes (L2.CX X.prog X.w) X W) : OpR X (compareOp .NotIn) (rF2 E W (hInO E.fn c0 (fun b => !b) FF)) := by
  intro pins s σ H x y v u Q I rx ry ⟨t, d, st, m, js, ra, rb, q⟩
  have q2 := bl_back (st := st) q
  unfold hOwn2 at q2
  cases hi : insOf E.fn c0 st d with
  | none => rw [hi] at q2; exact q2.elim
  | some p =>
    rw [hi] at q2
    obtain ⟨a, ox, od, rfl, rfl, J, _⟩ := ins_at (ns := p.1) (xs := p.2) I hi js rb ry
    obtain ⟨g, h1, h2, h3, hc⟩ := own_run O (room_sub hr) hx I (us := [.ref a, v]) (.cons ry (.cons rx .nil)) js (as := [d, t]) ⟨_, _, rfl, rb, _, _, rfl, ra, rfl⟩ q2
    obtain ⟨mm, hF⟩ := I.fr
    refine PySem.W.notIn_K hF I.ok.mod.kin J h1 h2 (wpAny_mono (wpAny_call hc) (fun r s' z => ?_) fun _ _ z => z)
    obtain ⟨w, H', I', rw', b, rfl, qz⟩ := z
    cases (show r = Value.bool b from rw')
    exact wpAny_truthy_bool ⟨.bl (!b), H', I', rfl, qz⟩
/-- o == x, at the top -/
theorem o_eqO (O : Own X E c0 "__eq__" k n FF) (hr : Room k X.A) (hx : Passes (L2.CX X.prog X.w) X W) : OpR X (compareOp .Eq) (rF2 E W fun a b s => match insOf E.fn c0 s b with | some _ => blZ (fun b => b) (hOwn2 E.fn c0 FF a b s) | none => .bad) := by
  intro pins s σ H x y v u Q I rx ry ⟨t, d, st, m, js, ra, rb, q⟩
  dsimp only at q
  cases hd : insOf E.fn c0 st d with
  | none => rw [hd] at q; exact q.elim
  | some p2 =>
    rw [hd] at q
    have q2 := bl_back (st := st) q
    unfold hOwn2 at q2
    cases hi : insOf E.fn c0 st t with
    | none => rw [hi] at q2; exact q2.elim
    | some p =>
      rw [hi] at q2
      obtain ⟨a, ox, od, rfl, rfl, J, _⟩ := ins_at (ns := p.1) (xs := p.2) I hi js ra rx
      obtain ⟨b, ox2, od2, rfl, rfl, J2, _⟩ := ins_at (ns := p2.1) (xs := p2.2) I hd js rb ry
      obtain ⟨g, h1, h2, h3, hc⟩ := own_run O (room_sub hr) hx I (us := [.ref a, .ref b]) (.cons rx (.cons ry .nil)) js (as := [t, d]) ⟨_, _, rfl, ra, _, _, rfl, rb, rfl⟩ q2
      obtain ⟨mm, hF⟩ := I.fr
      refine PySem.W.cmp_K (op := .Eq) (tb := .ref (E.ca c0)) hr.units0 hF I.ok.mod.kin J J2.type (by simp [PySem.W.notFirst]) h1 h2 (wpAny_mono (wpAny_call hc) (fun r s' z => ?_) fun _ _ z => z)
      obtain ⟨w, H', I', rw', b, rfl, qz⟩ := z
      cases (show r = Value.bool b from rw')
      exact ⟨.bl b, H', I', rfl, qz⟩
theorem back_V {P : Value → Shared → Prop} {z : V} {v : Value} {s' : Shared} (r : RelV z v) (h : P v s') : PySem.W.CmpBack P v s' := by
  have ne : v ≠ .notImplemented := by
    rintro rfl
    cases z <;> first | (cases (show Value.notImplemented = _ from r)) | (obtain ⟨_, e⟩ := (show ∃ t, Value.notImplemented = _ from r); cases e)
  cases v <;> first | exact h | exact absurd rfl ne
end
end Sh
namespace Sh
open PySem PySem.Calls PyProof.Rows PySem.W
section
variable {prog : Program} {w : World} {A : Around} {E : Value → Shared → Prop} {s : Shared} {K : Frag} {x C L f : Addr} {h₀ : Heap} {m : Str → Option Value} {ox : Obj} {od : Option Obj}
/-- o - b by o's own, b of a built-in type that stands on the heap -/
theorem bin_own {T : String} {op : Operator} {b : Value} {fo ro rc : Option Value} {Q : Value → Shared → Prop} (F : PyProof.Rows.Fr h₀ L s.heap m) (X₀ : K.In h₀) (I : InstAt s.heap x ox C od) (hb : Looks (model prog w) s.heap (typeOf b) (.type T)) (hc : selfFirst K C = true) (hf : isFn K (.ref f) = true)
    (hs : findIn K (.ref C) (PySem.dunder op.info.2) = some (some (.ref f))) (hr : findIn K (.ref C) (dunderR op.info.2) = some rc) (hp : rc = none ∨ ∃ g : Addr, rc = some (.ref g)) (hsub : subIn K (.type T) (.ref C) = some false)
    (hfo : findIn K (.type T) (PySem.dunder op.info.2) = some fo) (hro : findIn K (.type T) (dunderR op.info.2) = some ro) (h : wpAny (model prog w) A (call (.ref f) [.ref x, b]) (PySem.W.CmpBack Q) E s) : wpAny (model prog w) A (binaryOp op (.ref x) b) Q E s := by
  have KX := X₀.keeps F.keep
  obtain ⟨cd, rest, hcd, hm⟩ := ksp_first hc
  rcases hi : op.info with ⟨sy, nm⟩
  rw [hi] at hs hr hfo hro
  dsimp only at hs hr hfo hro
  have one := ksp_try KX I hs hf h
  obtain ⟨hh, g, d, tt, os⟩ := s
  have A1 : Looks (model prog w) hh (typeOf (.ref x)) (.ref C) := I.type
  have A2 : Looks (model prog w) hh (typeOf b) (.type T) := hb
  have A3 : Looks (model prog w) hh (fillsNumberSlot (.ref C) nm) true := fills_K KX hcd hm hs
  have A4 : Looks (model prog w) hh (fillsNumberSlot (.type T) nm) ((fo.isSome && !isSeqSlot fo) || (ro.isSome && !isSeqSlot ro)) := ksp_fillsT KX hfo hro
  have A5 : Looks (model prog w) hh (isSubtype (.type T) (.ref C)) false := looks_subIn KX hsub
  have A6 : Looks (model prog w) hh (numberSlotInPython (.ref C) nm) true := ksp_inPy KX hs hr hp
  have A7 : Looks (model prog w) hh (numberSlotInPython (.type T) nm) false := Looks.of_pure rfl
  have A8 : Looks (model prog w) hh (typeLookup (.type T) (dunderR nm)) ro := looks_findIn KX hro
  generalize ((fo.isSome && !isSeqSlot fo) || (ro.isSome && !isSeqSlot ro)) = right at A4
  have ne : (Value.ref C == Value.type T) = false := Bool.eq_false_iff.mpr fun q => by cases beq_iff_eq.mp q
  simp only [binaryOp, hi]
  refine wpAny_holding (wpAny_bind ?_)
  unfold binaryOp1
  refine wpAny_bind (A1.at (wpAny_bind (A2.at (wpAny_bind (A3.at ?_)))))
  simp only [ne, Bool.false_eq_true, if_false]
  cases right <;> (ksp_lk; refine wpAny_mono one (fun r s' z => ?_) (fun _ _ e => e); obtain ⟨v, rfl, hq⟩ := z; ksp_lk; exact hq)
end
end Sh
namespace Sh
open PySem PySem.Spec PyProof.Rows L2
/-- o - x, x a tuple -/
def hSubO (fn : Nat → List Str) (c0 : Nat) (FF : List T → Sto → Z T) : T → T → Sto → Z T := fun a b s => match asT b with
  | some _ => hOwn2 fn c0 FF a b s
  | none => .bad
section
variable {X : Cx} {E : RE} {W : XK} {c0 k n : Nat} {FF : List T → Sto → Z T} {m : Ma} {st : Sto} {H : Hp} {a b e : Expr} {es : List Expr} {fa fb fe : Fx} {fs : Fa} {pos p : Pos}
theorem o_subO {fo ro : Option Value} (O : Own X E c0 "__sub__" k n FF) (hr : Room k X.A) (hx : Passes (L2.CX X.prog X.w) X W) (hK : X.K = E.K) (hc0 : PySem.W.selfFirst X.K (E.ca c0) = true) (hrc : PySem.W.findIn X.K (.ref (E.ca c0)) "__rsub__" = some none)
    (h1 : PySem.W.findIn X.K (.type "tuple") "__sub__" = some fo) (h2 : PySem.W.findIn X.K (.type "tuple") "__rsub__" = some ro) (hsub : PySem.W.subIn X.K (.type "tuple") (.ref (E.ca c0)) = some false) :
    OpR X (binaryOp .Sub) (rF2 E W (hSubO E.fn c0 FF)) := by
  intro pins s σ H x y v u Q I rx ry ⟨t, d, st, m, js, ra, rb, q⟩
  unfold hSubO at q
  cases hd : asT d with
  | none => rw [hd] at q; exact q.elim
  | some ys =>
    rw [hd] at q
    dsimp only at q
    obtain ⟨b, ws, rfl, sq, rs⟩ := asT_ok hd rb
    unfold hOwn2 at q
    cases hi : insOf E.fn c0 st t with
    | none => rw [hi] at q; exact q.elim
    | some p =>
      rw [hi] at q
      obtain ⟨a, ox, od, rfl, rfl, J, _⟩ := ins_at (ns := p.1) (xs := p.2) I hi js ra rx
      cases ry
      obtain ⟨g, g1, g2, g3, hc⟩ := own_run O (room_sub hr) hx I (us := [.ref a, .ref b]) (vs := [.ref a, .ref b]) (.cons rx (.cons rfl .nil)) js (as := [t, d]) ⟨_, _, rfl, ra, _, _, rfl, rb, rfl⟩ q
      obtain ⟨mm, hF⟩ := I.fr
      obtain ⟨its, _, ⟨o, ho, hcl, _⟩, _⟩ := I.tuple (hK ▸ sq)
      have L2 : PySem.W.Looks (model X.prog X.w) s.heap (typeOf (.ref b)) (.type "tuple") := fun A Q E s k q => wpAny_typeOf_ref (k _ _ ho) (by rw [hcl]; exact q)
      exact bin_own (op := .Sub) hF I.ok.mod.kin J L2 hc0 g2 g1 hrc (.inl rfl) hsub h1 h2 (wpAny_mono (wpAny_call hc) (fun r s' ⟨w, H', I', rw', qz⟩ => back_V rw' ⟨w, H', I', rw', qz⟩) fun _ _ z => z)
/-- o[i] -/
theorem x_subO (O : Own X E c0 "__getitem__" k n FF) (hr : Room (k + 1) X.A) (hx : Passes (L2.CX X.prog X.w) X W) (ha : PE X a (tF E W fa)) (hb : PE X b (tF E W fb))
    (hsl : ∀ ov iv, subscripted b true ov iv = runValue (.builtin "lifetime.subscript" ⟨[ov, iv], []⟩) := by intro _ _; with_unfolding_all rfl) : PE X (.Subscript a b pos) (tF E W (v2 (hOwn2 E.fn c0 FF) fa fb)) := by
  have hp0 : PE X (.Subscript a b pos) (tOp (rF2 E W (hOwn2 E.fn c0 FF)) (tF E W fa) (tF E W fb)) := ⟨fun pins s σ H Q I h => Subscript_ (binT ha hb I h fun v u s2 x y H2 I2 rx ry ⟨t, d, st, m, js, ra, rb, q⟩ => by
    unfold hOwn2 at q
    cases hi : insOf E.fn c0 st t with
    | none => rw [hi] at q; exact q.elim
    | some p =>
      rw [hi] at q
      obtain ⟨a', ox, od, rfl, rfl, J, _⟩ := ins_at (ns := p.1) (xs := p.2) I2 hi js ra rx
      obtain ⟨g, g1, g2, g3, hc⟩ := own_run O (A := X.A.in1) ⟨hr.in1, rfl⟩ hx I2 (us := [.ref a', u]) (.cons rx (.cons ry .nil)) js (as := [t, d]) ⟨_, _, rfl, ra, _, _, rfl, rb, rfl⟩ q
      obtain ⟨mm, hF⟩ := I2.fr
      exact PySem.W.sub_K hF I2.ok.mod.kin J g1 g3 g2 (wpAny_call hc) (hsl _ _))⟩
  exact hp0.weak fun _ _ _ => t_2
/-- len(o) -/
def hLenO (fn : Nat → List Str) (c0 : Nat) (FF : List T → Sto → Z T) : List T → Sto → Z T := fun as s => match as with
  | [a] => (hOwn1 fn c0 FF a s).then fun t s => match t with | .int i => if (decide (0 ≤ i) && decide (i ≤ rgB)) = true then .ok (.int i) s else .bad | _ => .bad
  | _ => .bad
theorem c_lenO (O : Own X E c0 "__len__" k n FF) (hr : Room (k + 1) X.A) (hx : Passes (L2.CX X.prog X.w) X W) : CallR X (.builtin "len") (rFc E W (hLenO E.fn c0 FF)) := by
  intro pins s σ H xs us Q I r ⟨as, st, m, js, ra, q⟩
  unfold hLenO at q
  split at q
  case h_2 => exact q.elim
  rename_i t
  obtain ⟨v, rfl, rv⟩ := vals_one rfl ra
  obtain ⟨u, rfl, ru⟩ := vals1 r
  have q2 : PZ E W (R E) m H (fun v H' => ∃ i, v = .int i ∧ 0 ≤ i ∧ i < 2 ^ 63 ∧ Q (.int i) H') (hOwn1 E.fn c0 FF t st) := PZ.imp (fun v H1 y => by
    obtain ⟨t, s1, m1, _, e1, k1, js1, r1, q1⟩ := y
    cases t with
    | int i =>
      dsimp only at q1
      split at q1
      · rename_i hi
        rw [Bool.and_eq_true] at hi
        have a1 := of_decide_eq_true hi.1
        have a2 := of_decide_eq_true hi.2
        unfold rgB at a2
        exact ⟨i, r1, a1, by omega, PZ.ok q1 js1 rfl⟩
      · exact q1.elim
    | _ => exact q1.elim) (PZ.then (rel := R E) q)
  unfold hOwn1 at q2
  cases hi : insOf E.fn c0 st t with
  | none => rw [hi] at q2; exact q2.elim
  | some p =>
    rw [hi] at q2
    obtain ⟨a, ox, od, rfl, rfl, J, _⟩ := ins_at (ns := p.1) (xs := p.2) I hi js rv ru
    obtain ⟨g, h1, h2, h3, hc⟩ := own_run O (A := X.A.in1) ⟨hr.in1, rfl⟩ hx I (us := [.ref a]) (.cons ru .nil) js (as := [t]) ⟨_, _, rfl, rv, rfl⟩ q2
    obtain ⟨mm, hF⟩ := I.fr
    refine PySem.W.len_K hF I.ok.mod.kin J h1 h2 (wpAny_mono (wpAny_call hc) (fun r s' z => ?_) fun _ _ z => z)
    obtain ⟨w, H', I', rw', i, rfl, i0, i1, qz⟩ := z
    obtain ⟨tk, rfl⟩ := (show ∃ t, r = Value.int i t from rw')
    exact ⟨⟨i0, i1⟩, .int i, H', I'.tok _, ⟨_, rfl⟩, qz⟩
/-- o(e, ..) -/
def vCallO (fn : Nat → List Str) (c0 : Nat) (FF : List T → Sto → Z T) (f : Fx) (fs : Fa) : Fx := fun ρ st => (f ρ st).then fun t s => (fs ρ s).then fun as s => match insOf fn c0 s t with
  | some _ => FF (t :: as) s
  | none => .bad
end
end Sh

set_option Elab.async false
set_option linter.all false
set_option maxRecDepth 100000
set_option maxHeartbeats 4000000
namespace Sh
open PySem PySem.Spec PyProof.Rows L2
/-! ### def f(a, .., *v, k, ..), its keywords given -/
/-- us, then the keywords' values: as the body has them -/
def starA (n nk : Nat) (as : List T) : List T := as.take n ++ as.drop (as.length - nk) ++ [.tup ((as.take (as.length - nk)).drop n)]
def starF (fn : Nat → List Str) (n nk N : Nat) (body : Fs) : List T → Sto → Z T := fun as st => if (decide (n + nk ≤ as.length) && decide (as.length ≤ lim)) = true then trunc fn st.length (runB N body (starA n nk as) st) else .bad
def FnS (P : Program) (w : World) (K : PySem.W.Frag) (mg : Str → Option Value) (base : Heap) (ca : Nat → Addr) (fn xn : Nat → List Str) (k : Nat) (f : Addr) (ks : List Str) (FF : List T → Sto → Z T) : Prop :=
  ∀ (A : Around) (outer : List Env) (s : Shared) (H : Hp) (us ws : List Value) (vs : List V) (Q : VK) (W : XK), Room k A → Env0 P w K mg base A outer s H → Vals vs (us ++ ws) → ws.length = ks.length → spF K ca fn xn vs.length FF vs H Q W →
    codeAny (model P w) A (.call (.ref f) ⟨us, ks.zip ws⟩) (CR (L2.CX P w) outer P w H s Q W) s
section
variable {E : RE} {m m' : Ma} {H : Hp}
theorem Rs.take' : ∀ (n : Nat) {ts : List T} {vs : List V}, Rs E m H ts vs → Rs E m H (ts.take n) (vs.take n)
  | 0, _, _, _ => by simp [Rs]
  | n + 1, [], _, r => by cases (show _ = [] from r); simp [Rs]
  | n + 1, t :: ts, _, ⟨v, w, e, r1, r2⟩ => by subst e; exact ⟨v, _, rfl, r1, Rs.take' n r2⟩
theorem Rs.drop' : ∀ (n : Nat) {ts : List T} {vs : List V}, Rs E m H ts vs → Rs E m H (ts.drop n) (vs.drop n)
  | 0, _, _, r => r
  | n + 1, [], _, r => by cases (show _ = [] from r); exact r
  | n + 1, t :: ts, _, ⟨v, w, e, r1, r2⟩ => by subst e; exact Rs.drop' n r2
theorem vals_take : ∀ (n : Nat) {vs : List V} {us : List Value}, Vals vs us → Vals (vs.take n) (us.take n)
  | 0, _, _, _ => by rw [List.take_zero, List.take_zero]; exact .nil
  | n + 1, _, _, .nil => .nil
  | n + 1, _, _, .cons a r => .cons a (vals_take n r)
theorem vals_drop : ∀ (n : Nat) {vs : List V} {us : List Value}, Vals vs us → Vals (vs.drop n) (us.drop n)
  | 0, _, _, r => r
  | n + 1, _, _, .nil => .nil
  | n + 1, _, _, .cons a r => vals_drop n r
end
section
variable {P : Program} {w : World} {K : PySem.W.Frag} {mg : Str → Option Value} {base : Heap} {ca : Nat → Addr} {fn xn : Nat → List Str}
theorem okS {x qual : Str} {stt : Stmt} {f : Addr} {fd : FuncData} {N ps ks : List Str} {pv : Str} {k : Nat} {b : Fs} (F : Fun K x qual stt f fd) (S : FnScope N (ps ++ ks ++ [pv]) (defScope stt)) (hps : (ps ++ ks ++ [pv]).length ≤ N.length)
    (hb : ∀ (kV doc pm : Value) (an : Option Addr) (cdv ct : Value) (us rest ws : List Value), us.length = ps.length → ws.length = ks.length → bindArgs (PySem.W.fnOf x qual (defArgs stt) (defBody stt) (defScope stt) Value.none kV doc pm an cdv ct) ⟨us ++ rest, ks.zip ws⟩ = (newTuple rest >>= fun t => pure ((ps ++ ks).zip (us ++ ws) ++ [(pv, t)])))
    (hbody : ∀ (l : List Addr) (cdv : Value) (A : Around) (outer : List Env) (s : Shared) (H : Hp) (W : XK), Room k (A.deeper (envOfC qual (defScope stt) s.heap.objs.size f cdv)) →
      PSs (cxOf (L2.CX P w) P w K mg base N qual (defScope stt) f cdv A outer s H W) (defBody stt) (tS ⟨K, ca, fn, xn, l⟩ W b)) :
    FnS P w K mg base ca fn xn (k + 1) f ks (starF fn ps.length ks.length N.length b) := by
  intro A outer s H us ws vs Q W hr e0 r hlw ⟨l, as, st, m, _, js, rs, hp⟩
  unfold starF at hp
  by_cases hc : (decide (ps.length + ks.length ≤ as.length) && decide (as.length ≤ lim)) = true
  case neg => rw [if_neg hc] at hp; exact hp.elim
  rw [if_pos hc] at hp
  rw [Bool.and_eq_true] at hc
  have c1 := of_decide_eq_true hc.1
  have c2 := of_decide_eq_true hc.2
  obtain ⟨oc, od, kV, doc, pm, an, cdv, ct, osl, rfl, lk, hcd⟩ := F.ex
  have lv : vs.length = us.length + ws.length := by rw [r.length, List.length_append]
  have la : as.length = vs.length := rs.length
  have lu : ps.length ≤ us.length := by omega
  have eus : us = us.take ps.length ++ us.drop ps.length := (List.take_append_drop _ _).symm
  have ltk : (us.take ps.length).length = ps.length := by rw [List.length_take]; omega
  -- the parts
  have rp : Vals (vs.take ps.length) (us.take ps.length) := by
    have z := vals_take ps.length r
    rw [List.take_append_of_le_length lu] at z
    exact z
  have rk : Vals (vs.drop us.length) ws := by
    have z := vals_drop us.length r
    rw [List.drop_left' rfl] at z
    exact z
  have rr : Vals ((vs.take us.length).drop ps.length) (us.drop ps.length) := by
    have z := vals_drop ps.length (vals_take us.length r)
    rw [List.take_left' rfl] at z
    exact z
  have ea : as.length - ks.length = us.length := by omega
  have hn : H s.heap.objs.size = Option.none := e0.hok.fresh (Nat.le_refl _)
  have hz : ((vs.take us.length).drop ps.length).length ≤ sizeLine := by
    rw [List.length_drop, List.length_take]
    exact Nat.le_trans (Nat.le_trans (Nat.sub_le _ _) (Nat.min_le_right _ _)) (by rw [← la]; exact lim_line c2)
  have hz2 : (us.drop ps.length).length ≤ sizeLine := by rw [← rr.length]; exact hz
  refine StX.run_bnd lk hcd S hr e0 (G := fun xs H2 => ∃ p, H p = Option.none ∧ xs = vs.take ps.length ++ vs.drop us.length ++ [V.ref p] ∧ H2 = upd H p (.tup ((vs.take us.length).drop ps.length))) (fun A' Ex Q' h => ?_) fun s2 H2 xs ⟨p, hpn, ex, eH⟩ hr' => ?_
  · have hbb := hb kV doc pm an cdv ct (us.take ps.length) (us.drop ps.length) ws ltk hlw
    rw [← eus] at hbb
    rw [hbb]
    refine wpAny_bind (wpAny_newTuple (wpAny_pure ?_) hz2)
    have new : ObjOk P w (upd H s.heap.objs.size (.tup ((vs.take us.length).drop ps.length))) (s.heap.push ({ cls := .type "tuple", data := .seq (us.drop ps.length).toArray } : Obj)) s.heap.objs.size (.tup ((vs.take us.length).drop ps.length)) :=
      ⟨hz, us.drop ps.length, rr, ⟨_, Heap.get?_push_size _ rfl, rfl, _, rfl⟩⟩
    have un := StX.un_laid (fs := frs outer) (s := s) (o := ({ cls := .type "tuple", data := .seq (us.drop ps.length).toArray } : Obj)) (u := .tup ((vs.take us.length).drop ps.length)) hn
    have z := h _ _ (vs.take ps.length ++ vs.drop us.length ++ [V.ref s.heap.objs.size]) (us.take ps.length ++ ws ++ [Value.ref s.heap.objs.size]) (StX.env0_laid e0 new) un rfl (fun e s' => StX.cxUp outer s H _ _ W e s' un (fun b o q => Heap.get?_push_of_some _ q) rfl)
      ((rp.append rk).append (.cons rfl .nil)) (by rw [List.length_append, List.length_append, List.length_append, List.length_append, rp.length, ltk, rk.length, hlw]; rfl) ⟨_, hn, rfl, rfl⟩
    rw [List.zip_append (by rw [List.length_append, List.length_append, ltk, hlw])] at z
    exact z
  · subst ex eH
    have e2 : Ext m m H := .refl
    have k2 : Keep m H (upd H p (.tup ((vs.take us.length).drop ps.length))) := keep_new hpn
    have js2 := js.new (o := .tup ((vs.take us.length).drop ps.length)) hpn
    have rs2 := rs.mono e2 k2
    have rA : Rs ⟨K, ca, fn, xn, l⟩ m (upd H p (.tup ((vs.take us.length).drop ps.length))) (starA ps.length ks.length as) (vs.take ps.length ++ vs.drop us.length ++ [V.ref p]) := by
      unfold starA
      rw [ea]
      exact ((rs2.take' _).append (rs2.drop' _)).append ⟨_, _, rfl, ⟨p, _, rfl, js.fresh hpn, upd_same, (rs2.take' _).drop' _⟩, rfl⟩
    refine ⟨_, hbody l cdv A outer s2 _ W hr', startL N.length (starA ps.length ks.length as), st, m, (start_lc rA ?_).j js2, body_ok js2.len (hp.up e2 k2)⟩
    have := rA.length
    rw [this, List.length_append, List.length_append, rp.length, ltk, rk.length, hlw]
    rw [List.length_append, List.length_append] at hps
    exact hps
end
/-! ### calls with stars and keywords -/
theorem call_starkw {M : Model} {A : Around} {E : Value → Shared → Prop} {s : Shared} {f : Value} {first : List Value} {pos : Pos} {Q : Value → Shared → Prop} {P : Heap → Prop} {args : List (Bool × Sem Value)} {kws : List (Option Str × Sem Value)} (hst : (args.any (·.1) || kws.any (·.1.isNone)) = true)
    (hk : ∀ h, P h → ∃ k, (k = Keeper.frame ∨ k = Keeper.machine ∨ k = Keeper.boundFrame) ∧ PySem.W.Looks M h (keeperOf f) k)
    (h : wpAny M A (evalArgs f true args kws) (fun a s₁ => P s₁.heap ∧ wpAny M A (call f (first ++ a.pos) a.kw) Q E s₁) E s) : wpAny M A (callWith pos f first args kws) Q E s := by
  unfold callWith
  refine wpAny_bind (wpAny_holding (wpAny_mono h (fun z s₂ hz => wpAny_bind (wpAny_standAt ?_)) fun _ _ y => y))
  obtain ⟨kp, or3, L⟩ := hk _ hz.1
  simp only [hst]
  refine wpAny_bind (L.here ?_)
  have fin : ∀ {t : Sem Value}, wpAny M A t Q E s₂ → wpAny M A (t >>= fun r => holding [r] point >>= fun _ => pure r) Q E s₂ := fun ht =>
    wpAny_bind (wpAny_mono ht (fun r s₃ hr => wpAny_bind (wpAny_holding (wpAny_point (wpAny_pure hr)))) fun _ _ y => y)
  have mark (mk : Value) : wpAny M A (callMarked mk f (first ++ z.pos) z.kw) Q E s₂ := by unfold callMarked; exact Calls.wpAny_keep hz.2
  rcases or3 with rfl | rfl | rfl <;> dsimp only <;> (first | exact fin (mark _) | exact fin (Calls.wpAny_operating hz.2) | exact fin (wpAny_operating hz.2))
/-- keywords' values -/
theorem k_nil {X : Cx} {E : RE} {W : XK} : PK X [] (tFs E W aNil) := ⟨fun pos pins s σ H Q I ⟨ρ, st, m, j, hp⟩ => pk_nil.run pos pins s σ H Q I (PZ.ok hp j.sto (rfl : Rs E m H [] []))⟩
theorem k_cons {X : Cx} {E : RE} {W : XK} {e : Expr} {fa : Fx} {fr : Fa} {kws : List Keyword} {nm : Option Str} {kpos : Pos} (ha : PE X e (tF E W fa)) (hr : PK X kws (tFs E W fr)) : PK X (⟨nm, e, kpos⟩ :: kws) (tFs E W (aCons fa fr)) :=
  ⟨fun pos pins s σ H Q I ⟨ρ, st, m, j, hp⟩ => (pk_cons ha hr).run pos pins s σ H Q I ⟨ρ, st, m, j, PZ.imp (fun v H1 z => by
    obtain ⟨x, s1, m1, _, e1, k1, js1, r1, q1⟩ := z
    refine ⟨ρ, s1, m1, j.step e1 k1 js1, PZ.imp (fun w H2 z => ?_) (PZ.then (rel := Rs E) q1)⟩
    obtain ⟨y, s2, m2, _, e2, k2, js2, r2, q2⟩ := z
    exact PZ.ok q2 js2 ⟨v, w, rfl, r1.mono e2 k2, r2⟩) (PZ.then (rel := R E) hp)⟩⟩
/-- *e in an argument list -/
def aStar (f : Fx) (fr : Fa) : Fa := fun ρ st => (f ρ st).then fun t s => match (match asL s t with | some xs => some xs | none => asT t) with
  | some xs => (fr ρ s).then fun ys s => .ok (xs ++ ys) s
  | none => .bad
theorem a_star {X : Cx} {E : RE} {W : XK} {e : Expr} {es : List Expr} {fe : Fx} {fr : Fa} {p : Pos} (hK : X.K = E.K) (he : PE X e (tF E W fe)) (hr : PA X es (tFs E W fr)) (hs : starEach (.Starred e p :: es) X.env = (true, eval e X.env) :: starEach es X.env := by rfl) : PA X (.Starred e p :: es) (tFs E W (aStar fe fr)) :=
  (StX.pa_star he hr hs).weak fun σ H Q ⟨ρ, st, m, j, hp⟩ => by
    refine ⟨ρ, st, m, j, PZ.imp (fun v H1 z => ?_) (PZ.then (rel := R E) hp)⟩
    obtain ⟨t, s1, m1, _, e1, k1, js1, r1, q1⟩ := z
    have go : ∀ (a : Addr) (xs : List T) (vs : List V), v = .ref a → (StX.tStar X.K (tF E W fe) (tFs E W fr) = StX.tStar X.K (tF E W fe) (tFs E W fr)) → (SqT X.K H1 a vs ∨ SqL X.K H1 a vs) → Rs E m1 H1 xs vs → PZ E W (Rs E) m1 H1 Q ((fr ρ s1).then fun ys s => .ok (xs ++ ys) s) →
        ∃ p xs, v = V.ref p ∧ (SqT X.K H1 p xs ∨ SqL X.K H1 p xs) ∧ tFs E W fr σ H1 fun ys H2 => Q (xs ++ ys) H2 := by
      intro a xs vs ev _ sq rs q
      refine ⟨a, vs, ev, sq, ρ, s1, m1, j.step e1 k1 js1, PZ.imp (fun w H2 z => ?_) (PZ.then (rel := Rs E) q)⟩
      obtain ⟨ys, s2, m2, _, e2, k2, js2, r2, q2⟩ := z
      exact PZ.ok q2 js2 ((rs.mono e2 k2).append r2)
    cases hl : asL s1 t with
    | some xs =>
      rw [hl] at q1
      obtain ⟨a, vs, ev, sq, rs⟩ := asL_ok hl js1 r1
      exact go a xs vs ev rfl (.inr (hK ▸ sq)) rs q1
    | none =>
      rw [hl] at q1
      dsimp only at q1
      cases ht : asT t with
      | some xs =>
        rw [ht] at q1
        obtain ⟨a, vs, ev, sq, rs⟩ := asT_ok ht r1
        exact go a xs vs ev rfl (.inl (hK ▸ sq)) rs q1
      | none => rw [ht] at q1; exact q1.elim
/-- C(e, .., k = v, ..), some e with a star -/
def vMakeS (fn : Nat → List Str) (c0 : Nat) (FF : List T → Sto → Z T) (fs fk : Fa) : Fx := fun ρ st => (fs ρ st).then fun as s => (fk ρ s).then fun bs s => mkF fn c0 FF (as ++ bs) s
section
variable {X : Cx} {E : RE} {W : XK} {k : Nat} {f : Addr} {ks : List Str} {FF : List T → Sto → Z T} {x : Str} {e : Expr} {es : List Expr} {kws : List Keyword} {fs fk : Fa} {p pos : Pos}
theorem x_makeS (c0 : Nat) (M : Mk X.K (E.ca c0) f) (F : FnS X.prog X.w X.K X.mg X.base E.ca E.fn E.xn k f ks FF) (hK : X.K = E.K) (hr : Room (k + 1) X.A) (hm : X.mg x = some (.ref (E.ca c0))) (hx : Passes (L2.CX X.prog X.w) X W) (ha : PA X (e :: es) (tFs E W fs)) (hkw : PK X kws (tFs E W fk))
    (hg : Gl X x := by rfl) (hdb : (x == ("__debug__" : Str)) = false := by decide) (hall : (backToKw pos (keywordEach kws X.env)).all (·.1.isSome) = true := by rfl) (hks : (backToKw pos (keywordEach kws X.env)).filterMap (·.1) = ks := by rfl)
    (he : starEach (e :: es) X.env = (false, eval e X.env) :: starEach es X.env := by rfl) (hlen : ∀ {ρ : Lo} {st : Sto} {t : List T} {s : Sto}, fk ρ st = .ok t s → t.length = ks.length) : PE X (.Call (.Name x p) (e :: es) kws pos) (tF E W (vMakeS E.fn c0 FF fs fk)) := by
  refine ⟨fun pins s σ H Q I ⟨ρ, st, m, j, hp⟩ => ?_⟩
  refine wpAny_Call_Name_kw (ld_glob I hg hm ?_ hdb)
  have main : wpAny (model X.prog X.w) X.A (spliced (backTo pos (starEach (e :: es) X.env))) (fun vs s₁ => wpAny (model X.prog X.w) X.A (evalAll ((backToKw pos (keywordEach kws X.env)).map (·.2)))
      (fun us s₂ => X.K.In s₂.heap ∧ wpAny (model X.prog X.w) X.A (call (.ref (E.ca c0)) ([] ++ vs) (((backToKw pos (keywordEach kws X.env)).filterMap (·.1)).zip us)) (EP X pins σ Q) X.xe s₂) X.xe s₁) X.xe s := by
    refine thn (ha.run pos pins s σ H _ I ⟨ρ, st, m, j, PZ.imp (fun v H1 z => z) (PZ.then (rel := Rs E) hp)⟩) fun us s1 ⟨vs, H1, I1, r, as, t1, m1, _, e1, k1, js1, r1, q1⟩ => ?_
    refine thn (hkw.run pos pins s1 σ H1 _ I1 ⟨ρ, t1, m1, j.step e1 k1 js1, PZ.imp (fun v H2 z => z) (PZ.then (rel := Rs E) q1)⟩) fun ws s2 ⟨zs, H2, I2, rz, bs, t2, m2, hbs, e2, k2, js2, r2, q2⟩ => ⟨I2.kIn, ?_⟩
    rw [hks]
    have lz : zs.length = ks.length := by rw [← r2.length]; exact hlen hbs
    have rr : Rs E m2 H2 (as ++ bs) (vs ++ zs) := (r1.mono e2 k2).append r2
    let FF2 : List T → Sto → Z T := fun as' st => if as'.length = (as ++ bs).length + 1 then FF as' st else .bad
    have eq2 : mkF E.fn c0 FF (as ++ bs) t2 = mkF E.fn c0 FF2 (as ++ bs) t2 := by unfold mkF; simp only [FF2, List.length_cons, if_true]
    rw [eq2] at q2
    have sp := mk_sp c0 js2 rr (fun as' st h => if_neg h) q2
    have hq := sp (s2.heap.objs.size + 1) s2.heap.objs.size (I2.hok.fresh (Nat.le_succ _)) (I2.hok.fresh (Nat.le_refl _)) (Nat.ne_of_lt (Nat.lt_succ_self _))
    have I3 := Inv.made (C := E.ca c0) I2
    have rv : Vals (V.ref (s2.heap.objs.size + 1) :: (vs ++ zs)) ((Value.ref (s2.heap.objs.size + 1) :: us) ++ ws) := .cons rfl (r.append rz)
    have hq2 : spF X.K E.ca E.fn E.xn (V.ref (s2.heap.objs.size + 1) :: (vs ++ zs)).length FF (V.ref (s2.heap.objs.size + 1) :: (vs ++ zs)) (upd (upd H2 s2.heap.objs.size (.own (s2.heap.objs.size + 1))) (s2.heap.objs.size + 1) (.ins (E.ca c0) s2.heap.objs.size [])) (fun v H3 => v = .non ∧ Q (.ref (s2.heap.objs.size + 1)) H3) W := by
      rw [hK]
      obtain ⟨l, a3, t3, m3, l3, js3, rs3, pz3⟩ := hq
      refine ⟨l, a3, t3, m3, rfl, js3, rs3, ?_⟩
      simp only [FF2] at pz3
      split at pz3
      · exact pz3
      · exact pz3.elim
    refine wpAny_call (make_map (f := f) I2.kIn M.makes M.init (beq_iff_eq.mp M.fn) (codeAny_mono (F _ X.stack _ _ (Value.ref (s2.heap.objs.size + 1) :: us) ws _ _ W (hr.make (E.ca c0) us (ks.zip ws)) (I3.env0.make (E.ca c0) us (ks.zip ws)) rv (by rw [← rz.length]; exact lz) hq2) fun r s' hz => ?_))
    rcases r with er | fl
    · exact hx pins σ _ _ er s' I3 hz
    · rcases fl with u | _ | _ | _
      all_goals first | exact False.elim hz | (obtain ⟨v, H', I4, rw', ev, qz⟩ := I3.after hz; subst ev; exact ⟨rw', V.ref (s2.heap.objs.size + 1), H', I4, rfl, qz⟩)
  by_cases hpl : ((backTo pos (starEach (e :: es) X.env)).any (·.1) || (backToKw pos (keywordEach kws X.env)).any (·.1.isNone)) = true
  · exact call_starkw hpl (PySem.W.keeps_K M.kp) (PyProof.Rows.evalArgs_kw2 hall main he)
  · exact PySem.W.callWith_KW (h₀ := X.base) I.ok.mod.kin M.kp hall main (Bool.eq_false_iff.mpr hpl) he
end
end Sh

set_option Elab.async false
set_option linter.all false
set_option maxRecDepth 100000
set_option maxHeartbeats 4000000
/-! == of lists and tuples by what their items say, both answers -/
namespace ShQ
open PySem PySem.SeqAt
open AutoSeq1 (wpAny_loadPart')
open MeetsSeq MeetsSeq2 MeetsSeq3 SeqRoads2
section
variable {prog : Program} {w : World} {A : Around} {R : Result → Shared → Prop}
abbrev EndOf (prog : Program) (w : World) (A : Around) (R : Result → Shared → Prop) : Fin → Shared → Prop := fun z s' => match z with
  | .done r => R (.ok r) s'
  | .again c => c.quiet = true ∧ codeAny (model prog w) A c R s'
/-- what stands at each turn i: both lists have N items; the i-th two are asked -/
def Two (prog : Program) (w : World) (A : Around) (E : Value → Shared → Prop) (l b : Addr) (N : Nat) (I : Nat → Shared → Prop) (No : Shared → Prop) : Prop :=
  ∀ i s, I i s → ∃ (xs ys : Array Value) (n n2 : Nat), s.heap.get? l = some { cls := .type "list", data := .seq xs n } ∧ s.heap.get? b = some { cls := .type "list", data := .seq ys n2 } ∧ xs.size = N ∧ ys.size = N ∧
    ∀ (h1 : i < xs.size) (h2 : i < ys.size), wpAny (model prog w) A.in1 (eqBool xs[i] ys[i]) (fun r s' => if r = true then I (i + 1) s' else I i s' ∧ No s') E s
theorem loop2 (l b : Addr) (N : Nat) (I : Nat → Shared → Prop) (No : Shared → Prop) (hl : Two prog w A (fun e s' => R (.error e) s') l b N I No) (yes : ∀ s, I N s → R (.ok (.ret (.bool true))) s) (no : ∀ s, No s → R (.ok (.ret (.bool false))) s) (k : Nat) :
    ∀ i : Nat, N - i = k → i ≤ N → ∀ s, I i s → wpAny (model prog w) A.in1 (Builtin.«list.__eq__.loop» ⟨[.ref l, .ref b, rawInt i, rawInt 2], []⟩) (EndOf prog w A R) (fun e s' => R (.error e) s') s := by
  induction k with
  | zero =>
    intro i hk hi s h
    obtain ⟨xs, ys, n, n2, gl, gb, zx, zy, _⟩ := hl _ _ h
    have ei : i = N := by omega
    have fin : R (.ok (.ret (.bool true))) s := yes s (ei ▸ h)
    obtain ⟨hp, g, d, tk, os⟩ := s
    wp_walk using wpAny_loadPart' gl, wpAny_loadPart' gb
    have o1 : xs[((i : Nat) : Int).toNat]? = none := by simp; omega
    have o2 : ys[((i : Nat) : Int).toNat]? = none := by simp; omega
    rw [o1, o2]
    wp_walk using wpAny_loadPart' gl, wpAny_loadPart' gb
    show R (.ok (.ret (.bool (xs.size == ys.size)))) _
    rw [zx, zy]
    simpa using fin
  | succ k ih =>
    intro i hk hi s h
    obtain ⟨xs, ys, n, n2, gl, gb, zx, zy, turn⟩ := hl _ _ h
    have l1 : i < xs.size := by omega
    have l2 : i < ys.size := by omega
    have ht := turn l1 l2
    obtain ⟨hp, g, d, tk, os⟩ := s
    wp_walk using wpAny_loadPart' gl, wpAny_loadPart' gb
    have o1 : xs[((i : Nat) : Int).toNat]? = some xs[i] := by simp [l1]
    have o2 : ys[((i : Nat) : Int).toNat]? = some ys[i] := by simp [l2]
    have ec : ((i : Int) + 1) = ((i + 1 : Nat) : Int) := by omega
    rw [o1, o2]
    refine wpAny_bind (wpAny_mono ht (fun r s2 q2 => ?_) fun _ _ z => z)
    cases r with
    | true =>
      rw [if_pos rfl] at q2
      have rec_ := ih (i + 1) (by omega) (by omega) s2 q2
      obtain ⟨hp2, g2, d2, tk2, os2⟩ := s2
      wp_walk
      rw [ec]
      exact ⟨plainId_quiet plain_eq_loop _, codeAny_builtin entry_eq_loop (by rw [Around.under_plainId plain_eq_loop _]; exact rec_)⟩
    | false =>
      rw [if_neg Bool.false_ne_true] at q2
      obtain ⟨xs', ys', n', n2', gl', gb', zx', zy', _⟩ := hl _ _ q2.1
      have fin := no s2 q2.2
      have o1' : xs'[((i : Nat) : Int).toNat]? = some (xs'[i]'(by omega)) := by simp
      have o2' : ys'[((i : Nat) : Int).toNat]? = some (ys'[i]'(by omega)) := by simp
      obtain ⟨hp2, g2, d2, tk2, os2⟩ := s2
      wp_walk using wpAny_loadPart' gl', wpAny_loadPart' gb'
      rw [o1', o2']
      exact wpAny_pure fin
theorem list2 (l b : Addr) (N : Nat) (I : Nat → Shared → Prop) (No : Shared → Prop) (hl : Two prog w A (fun e s' => R (.error e) s') l b N I No) (yes : ∀ s, I N s → R (.ok (.ret (.bool true))) s) (no : ∀ s, No s → R (.ok (.ret (.bool false))) s) {s : Shared} (h : I 0 s) :
    wpAny (model prog w) A.in1 (Builtin.«list.__eq__» ⟨[.ref l, .ref b], []⟩) (EndOf prog w A R) (fun e s' => R (.error e) s') s := by
  obtain ⟨xs, ys, n, n2, gl, gb, zx, zy, _⟩ := hl _ _ h
  have rec_ := loop2 (A := A) (R := R) l b N I No hl yes no _ 0 rfl (Nat.zero_le _) s h
  obtain ⟨hp, g, d, tk, os⟩ := s
  have f := AutoSeq1.sub_list_list
  have ne : ¬ (xs.size != ys.size) = true := by simp [zx, zy]
  wp_walk using wpAny_loadPart' gl, wpAny_loadPart' gb
  exact ⟨plainId_quiet plain_eq_loop _, codeAny_builtin entry_eq_loop (by rw [Around.under_plainId plain_eq_loop _]; exact rec_)⟩
/-- of different sizes -/
theorem list2n (l b : Addr) {xs ys : Array Value} {n n2 : Nat} {s : Shared} (gl : s.heap.get? l = some { cls := .type "list", data := .seq xs n }) (gb : s.heap.get? b = some { cls := .type "list", data := .seq ys n2 }) (hne : xs.size ≠ ys.size) (fin : R (.ok (.ret (.bool false))) s) :
    wpAny (model prog w) A.in1 (Builtin.«list.__eq__» ⟨[.ref l, .ref b], []⟩) (EndOf prog w A R) (fun e s' => R (.error e) s') s := by
  obtain ⟨hp, g, d, tk, os⟩ := s
  have f := AutoSeq1.sub_list_list
  have ne : (xs.size != ys.size) = true := by simp [hne]
  wp_walk using wpAny_loadPart' gl, wpAny_loadPart' gb
  exact fin
theorem tuple2 (l b : Addr) (xs ys : Array Value) (n n2 : Nat) (dd dd2 : Option Addr) (sl sl2 : Array (Option Value)) (I : Nat → Shared → Prop) (No : Shared → Prop)
    (turn : ∀ i (h1 : i < xs.size) (h2 : i < ys.size) s, I i s → wpAny (model prog w) A.in1 (eqBool xs[i] ys[i]) (fun r s' => if r = true then I (i + 1) s' else No s') (fun e s' => R (.error e) s') s)
    (yes : ∀ s, I (min xs.size ys.size) s → R (.ok (.ret (.bool (xs.size == ys.size)))) s) (no : ∀ s, No s → R (.ok (.ret (.bool false))) s) {s : Shared} (gl : s.heap.get? l = some { cls := .type "tuple", dict := dd, data := .seq xs n, slots := sl }) (gb : s.heap.get? b = some { cls := .type "tuple", dict := dd2, data := .seq ys n2, slots := sl2 }) (h : I 0 s) :
    wpAny (model prog w) A.in1 (Builtin.«tuple.__eq__» ⟨[.ref l, .ref b], []⟩) (EndOf prog w A R) (fun e s' => R (.error e) s') s := by
  have f := AutoSeq1.sub_tuple_tuple
  have hZ : (xs.toList.zip ys.toList).length = min xs.size ys.size := by simp
  have h0 := h
  obtain ⟨hp, g, d, tk, os⟩ := s
  wp_walk using wpAny_loadPart' gl, wpAny_loadPart' gb, wpAny_forIn_list _ (fun rest b s' => b.1 = none ∧ ∃ i, rest = (xs.toList.zip ys.toList).drop i ∧ i ≤ min xs.size ys.size ∧ I i s') _
  case turn =>
    rintro ⟨y, x⟩ rest b s' ⟨hb, i, hz, hi, hI⟩
    have lt : i < (xs.toList.zip ys.toList).length := by
      rcases Nat.lt_or_ge i (xs.toList.zip ys.toList).length with q | q
      · exact q
      · rw [List.drop_of_length_le q] at hz; cases hz
    have h1 : i < xs.size := by rw [hZ] at lt; omega
    have h2 : i < ys.size := by rw [hZ] at lt; omega
    rw [List.drop_eq_getElem_cons lt] at hz
    injection hz with e1 e2
    have ey : y = xs[i] := by have := congrArg Prod.fst e1; simpa using this
    have ex : x = ys[i] := by have := congrArg Prod.snd e1; simpa using this
    subst ey ex
    refine wpAny_bind (wpAny_mono (turn i h1 h2 s' hI) (fun r s2 q2 => ?_) fun _ _ z => z)
    cases r with
    | true =>
      rw [if_pos rfl] at q2
      wp_walk
      exact ⟨rfl, i + 1, e2, by omega, q2⟩
    | false =>
      rw [if_neg Bool.false_ne_true] at q2
      have fin := no s2 q2
      wp_walk
      exact fin
  case fin =>
    rintro ⟨b1, b2⟩ s' ⟨hb, i, hz, hi, hI⟩
    simp only at hb
    subst hb
    have ge : min xs.size ys.size ≤ i := by
      rcases Nat.lt_or_ge i (xs.toList.zip ys.toList).length with q | q
      · rw [List.drop_eq_getElem_cons q] at hz; cases hz
      · rw [hZ] at q; exact q
    have ei : i = min xs.size ys.size := by omega
    have fin := yes s' (ei ▸ hI)
    wp_walk
    exact fin
  case h => exact ⟨rfl, 0, rfl, Nat.zero_le _, h0⟩
end
section
variable {prog : Program} {w : World} {A : Around} {E : Value → Shared → Prop} {s : Shared}
theorem at_here {T : String} {name : Str} {id : String} {B : Builtin} {self : Value} {rest : List Value} {Q : Value → Shared → Prop} (slot : Slot T name id) (hT : s.TypeIs self T) (entry : entryFor table id = some B) (args : argsOk id ⟨self :: rest, []⟩)
    (h : wpAny (model prog w) A.in1 (B ⟨self :: rest, []⟩) (EndOf prog w A (wants Q E)) (fun e s' => wants Q E (.error e) s') s) : wpAny (model prog w) A (call (.builtin id) (self :: rest)) Q E s :=
  wpAny_call (codeAny_call_builtin slot.plain entry (slot.check _ _ _ _ _ _ _ _ hT args h))
theorem rc_list2 {l b : Addr} {N : Nat} {Q : Value → Shared → Prop} (hu : A.units < cLine) (I : Nat → Shared → Prop) (No : Shared → Prop) (hl : Two prog w A E l b N I No) (yes : ∀ s, I N s → Q (.bool true) s) (no : ∀ s, No s → Q (.bool false) s) (h : I 0 s) : wpAny (model prog w) A (richCompare .Eq (.ref l) (.ref b)) Q E s := by
  obtain ⟨xs, ys, n, n2, gl, gb, _⟩ := hl _ _ h
  refine wpAny_richCompare_same_room (op := .Eq) ⟨_, gl, rfl⟩ ⟨_, gb, rfl⟩ F.slot_list_eq (at_here F.slot_list_eq ⟨_, gl, rfl⟩ F.entry_list_eq (F.args_list_eq_2 _ _) ?_) hu
  exact list2 (R := wants (fun v s' => v ≠ .notImplemented ∧ Q v s') E) l b N I No hl (fun s' q => ⟨(fun z => nomatch z), yes s' q⟩) (fun s' q => ⟨(fun z => nomatch z), no s' q⟩) h
theorem rc_list2n {l b : Addr} {xs ys : Array Value} {n n2 : Nat} {Q : Value → Shared → Prop} (hu : A.units < cLine) (gl : s.heap.get? l = some { cls := .type "list", data := .seq xs n }) (gb : s.heap.get? b = some { cls := .type "list", data := .seq ys n2 }) (hne : xs.size ≠ ys.size) (fin : Q (.bool false) s) : wpAny (model prog w) A (richCompare .Eq (.ref l) (.ref b)) Q E s := by
  refine wpAny_richCompare_same_room (op := .Eq) ⟨_, gl, rfl⟩ ⟨_, gb, rfl⟩ F.slot_list_eq (at_here F.slot_list_eq ⟨_, gl, rfl⟩ F.entry_list_eq (F.args_list_eq_2 _ _) ?_) hu
  exact list2n (R := wants (fun v s' => v ≠ .notImplemented ∧ Q v s') E) l b gl gb hne ⟨(fun z => nomatch z), fin⟩
theorem rc_tup2 {l b : Addr} {xs ys : Array Value} {Q : Value → Shared → Prop} (hu : A.units < cLine) (I : Nat → Shared → Prop) (No : Shared → Prop) (gl : s.heap.IsTuple l xs) (gb : s.heap.IsTuple b ys)
    (turn : ∀ i (h1 : i < xs.size) (h2 : i < ys.size) s, I i s → wpAny (model prog w) A.in1 (eqBool xs[i] ys[i]) (fun r s' => if r = true then I (i + 1) s' else No s') E s)
    (yes : ∀ s, I (min xs.size ys.size) s → Q (.bool (xs.size == ys.size)) s) (no : ∀ s, No s → Q (.bool false) s) (h : I 0 s) : wpAny (model prog w) A (richCompare .Eq (.ref l) (.ref b)) Q E s := by
  obtain ⟨⟨c1, d1, t1, sl1⟩, g1, e1, n1, f1⟩ := id gl
  obtain ⟨⟨c2, d2, t2, sl2⟩, g2, e2, n2, f2⟩ := id gb
  simp only at e1 f1 e2 f2
  subst e1 f1 e2 f2
  refine wpAny_richCompare_same_room (op := .Eq) ⟨_, g1, rfl⟩ ⟨_, g2, rfl⟩ F.slot_tuple_eq (at_here F.slot_tuple_eq ⟨_, g1, rfl⟩ F.entry_tuple_eq (F.args_tuple_eq_2 _ _) ?_) hu
  exact tuple2 (R := wants (fun v s' => v ≠ .notImplemented ∧ Q v s') E) l b xs ys n1 n2 d1 d2 sl1 sl2 I No turn (fun s' q => ⟨(fun z => nomatch z), yes s' q⟩) (fun s' q => ⟨(fun z => nomatch z), no s' q⟩) g1 g2 h
/-- inside a list or tuple: two objects by their rich comparison -/
theorem refs2 {l b : Addr} {Q : Bool → Shared → Prop} (hne : l ≠ b) (h : wpAny (model prog w) A (richCompare .Eq (.ref l) (.ref b)) (fun v s' => ∃ r, v = .bool r ∧ Q r s') E s) : wpAny (model prog w) A (eqBool (.ref l) (.ref b)) Q E s := GQ.eqBool_refG hne h
end
end ShQ

set_option Elab.async false
set_option linter.all false
set_option maxRecDepth 100000
set_option maxHeartbeats 4000000
namespace Sh
open PySem PySem.Spec PyProof.Rows L2
/-- does an answer by trees: whether the two are equal -/
abbrev Fq := T → T → Option Bool
def Grow (H H' : Hp) : Prop := ∀ a o, H a = some o → H' a = some o
mutual
/-- may the two be one thing? -/
def may : T → T → Bool
  | .int i, .int j => decide (i = j)
  | .str i, .str j => decide (i = j)
  | .bl i, .bl j => decide (i = j)
  | .tup xs, .tup ys => mays xs ys
  | .lst xs, .lst ys => mays xs ys
  | .ins c xs, .ins d ys => if c = d then mays xs ys else true
  | .dK ks xs, .dK ls ys => decide (ks = ls) && mays xs ys
  | .dT ks xs, .dT ls ys => decide (ks = ls) && mays xs ys
  | _, _ => true
def mays : List T → List T → Bool
  | [], [] => true
  | x :: xs, y :: ys => may x y && mays xs ys
  | _, _ => false
end
section
variable {E : RE} {m : Ma} {H H' : Hp} {st : Sto}
theorem zip_inj {κ α : Type} : ∀ {ks ls : List κ} {vs ws : List α}, ks.length = vs.length → ls.length = ws.length → ks.zip vs = ls.zip ws → ks = ls ∧ vs = ws
  | [], [], [], [], _, _, _ => ⟨rfl, rfl⟩
  | [], _ :: _, [], _ :: _, _, _, h => by cases h
  | _ :: _, [], _ :: _, [], _, _, h => by cases h
  | k :: ks, l :: ls, v :: vs, w :: ws, a, b, h => by
    rw [List.zip_cons_cons, List.zip_cons_cons] at h
    injection h with h1 h2
    obtain ⟨e1, e2⟩ := zip_inj (by simpa using a) (by simpa using b) h2
    cases h1
    exact ⟨by rw [e1], by rw [e2]⟩
theorem rd_uni {a : Addr} {u u' : HO} (hu : isDc u = true) (hu' : isDc u' = true) (h : Rd H a u) (h' : Rd H a u') : u = u' := by
  rcases h with h | ⟨o, h⟩ <;> rcases h' with h' | ⟨o', h'⟩ <;> rw [h] at h' <;> cases h' <;> first | rfl | cases hu | cases hu'
mutual
theorem may_ok : ∀ {x y : T} {v : V}, R E m H x v → R E m H y v → may x y = true
  | .int i, .int j, v, h, k => by cases (show v = _ from h); cases (show V.int i = _ from k); unfold may; simp
  | .str i, .str j, v, h, k => by cases (show v = _ from h); cases (show V.str i = _ from k); unfold may; simp
  | .bl i, .bl j, v, h, k => by cases (show v = _ from h); cases (show V.bl i = _ from k); unfold may; simp
  | .tup xs, .tup ys, v, ⟨a, vs, ev, na, hs, hr⟩, ⟨a2, ws, ew, na2, hs2, hr2⟩ => by
    subst ev; cases ew; rw [hs] at hs2; cases hs2; unfold may; exact mays_ok hr hr2
  | .lst xs, .lst ys, v, ⟨a, vs, ev, na, hs, hr⟩, ⟨a2, ws, ew, na2, hs2, hr2⟩ => by
    subst ev; cases ew; rw [hs] at hs2; cases hs2; unfold may; exact mays_ok hr hr2
  | .ins c xs, .ins d ys, v, ⟨a, dx, vs, ev, na, hs, hl, hr⟩, ⟨a2, dx2, ws, ew, na2, hs2, hl2, hr2⟩ => by
    unfold may
    by_cases e : c = d
    · subst e
      rw [if_pos rfl]
      subst ev; cases ew; rw [hs] at hs2
      injection hs2 with z
      injection z with _ _ z
      obtain ⟨_, e2⟩ := zip_inj hl hl2 z
      subst e2
      exact mays_ok hr hr2
    · rw [if_neg e]
  | .dK ks xs, .dK ls ys, v, ⟨a, vs, ev, na, hs, hl, hr⟩, ⟨a2, ws, ew, na2, hs2, hl2, hr2⟩ => by
    subst ev; cases ew
    injection rd_uni rfl rfl hs hs2 with z
    obtain ⟨e1, e2⟩ := zip_inj hl hl2 z
    subst e1 e2
    unfold may
    rw [mays_ok hr hr2]; simp
  | .dT ks xs, .dT ls ys, v, ⟨a, vs, ev, na, hs, hl, hr⟩, ⟨a2, ws, ew, na2, hs2, hl2, hr2⟩ => by
    subst ev; cases ew
    injection rd_uni rfl rfl hs hs2 with z
    obtain ⟨e1, e2⟩ := zip_inj hl hl2 z
    subst e1 e2
    unfold may
    rw [mays_ok hr hr2]; simp
  | .non, y, _, _, _ => by cases y <;> rfl
  | .scr _, y, _, _, _ => by cases y <;> rfl
  | .tupK _, y, _, _, _ => by cases y <;> rfl
  | .cell _, y, _, _, _ => by cases y <;> rfl
  | .int _, .non, _, _, _ => rfl | .int _, .bl _, _, _, _ => rfl | .int _, .str _, _, _, _ => rfl | .int _, .tup _, _, _, _ => rfl | .int _, .lst _, _, _, _ => rfl | .int _, .scr _, _, _, _ => rfl | .int _, .tupK _, _, _, _ => rfl | .int _, .dK _ _, _, _, _ => rfl | .int _, .dT _ _, _, _, _ => rfl | .int _, .ins _ _, _, _, _ => rfl | .int _, .cell _, _, _, _ => rfl
  | .str _, .non, _, _, _ => rfl | .str _, .bl _, _, _, _ => rfl | .str _, .int _, _, _, _ => rfl | .str _, .tup _, _, _, _ => rfl | .str _, .lst _, _, _, _ => rfl | .str _, .scr _, _, _, _ => rfl | .str _, .tupK _, _, _, _ => rfl | .str _, .dK _ _, _, _, _ => rfl | .str _, .dT _ _, _, _, _ => rfl | .str _, .ins _ _, _, _, _ => rfl | .str _, .cell _, _, _, _ => rfl
  | .bl _, .non, _, _, _ => rfl | .bl _, .str _, _, _, _ => rfl | .bl _, .int _, _, _, _ => rfl | .bl _, .tup _, _, _, _ => rfl | .bl _, .lst _, _, _, _ => rfl | .bl _, .scr _, _, _, _ => rfl | .bl _, .tupK _, _, _, _ => rfl | .bl _, .dK _ _, _, _, _ => rfl | .bl _, .dT _ _, _, _, _ => rfl | .bl _, .ins _ _, _, _, _ => rfl | .bl _, .cell _, _, _, _ => rfl
  | .tup _, .non, _, _, _ => rfl | .tup _, .str _, _, _, _ => rfl | .tup _, .int _, _, _, _ => rfl | .tup _, .bl _, _, _, _ => rfl | .tup _, .lst _, _, _, _ => rfl | .tup _, .scr _, _, _, _ => rfl | .tup _, .tupK _, _, _, _ => rfl | .tup _, .dK _ _, _, _, _ => rfl | .tup _, .dT _ _, _, _, _ => rfl | .tup _, .ins _ _, _, _, _ => rfl | .tup _, .cell _, _, _, _ => rfl
  | .lst _, .non, _, _, _ => rfl | .lst _, .str _, _, _, _ => rfl | .lst _, .int _, _, _, _ => rfl | .lst _, .bl _, _, _, _ => rfl | .lst _, .tup _, _, _, _ => rfl | .lst _, .scr _, _, _, _ => rfl | .lst _, .tupK _, _, _, _ => rfl | .lst _, .dK _ _, _, _, _ => rfl | .lst _, .dT _ _, _, _, _ => rfl | .lst _, .ins _ _, _, _, _ => rfl | .lst _, .cell _, _, _, _ => rfl
  | .ins _ _, .non, _, _, _ => rfl | .ins _ _, .str _, _, _, _ => rfl | .ins _ _, .int _, _, _, _ => rfl | .ins _ _, .bl _, _, _, _ => rfl | .ins _ _, .tup _, _, _, _ => rfl | .ins _ _, .scr _, _, _, _ => rfl | .ins _ _, .tupK _, _, _, _ => rfl | .ins _ _, .dK _ _, _, _, _ => rfl | .ins _ _, .dT _ _, _, _, _ => rfl | .ins _ _, .lst _, _, _, _ => rfl | .ins _ _, .cell _, _, _, _ => rfl
  | .dK _ _, .non, _, _, _ => rfl | .dK _ _, .str _, _, _, _ => rfl | .dK _ _, .int _, _, _, _ => rfl | .dK _ _, .bl _, _, _, _ => rfl | .dK _ _, .tup _, _, _, _ => rfl | .dK _ _, .scr _, _, _, _ => rfl | .dK _ _, .tupK _, _, _, _ => rfl | .dK _ _, .ins _ _, _, _, _ => rfl | .dK _ _, .dT _ _, _, _, _ => rfl | .dK _ _, .lst _, _, _, _ => rfl | .dK _ _, .cell _, _, _, _ => rfl
  | .dT _ _, .non, _, _, _ => rfl | .dT _ _, .str _, _, _, _ => rfl | .dT _ _, .int _, _, _, _ => rfl | .dT _ _, .bl _, _, _, _ => rfl | .dT _ _, .tup _, _, _, _ => rfl | .dT _ _, .scr _, _, _, _ => rfl | .dT _ _, .tupK _, _, _, _ => rfl | .dT _ _, .ins _ _, _, _, _ => rfl | .dT _ _, .dK _ _, _, _, _ => rfl | .dT _ _, .lst _, _, _, _ => rfl | .dT _ _, .cell _, _, _, _ => rfl
theorem mays_ok : ∀ {xs ys : List T} {vs : List V}, Rs E m H xs vs → Rs E m H ys vs → mays xs ys = true
  | [], [], _, _, _ => by unfold mays; rfl
  | [], y :: ys, vs, h, ⟨_, _, e, _⟩ => by cases (show vs = [] from h); cases e
  | x :: xs, [], vs, ⟨_, _, e, _⟩, h => by cases (show vs = [] from h); cases e
  | x :: xs, y :: ys, vs, ⟨v, r, e, h1, h2⟩, ⟨v', r', e', k1, k2⟩ => by
    subst e; cases e'
    unfold mays
    rw [may_ok h1 k1, mays_ok h2 k2]; rfl
end
/-- the store stands while things are added -/
theorem JS.grow {s : Sto} (js : JS E m s H) (g : Grow H H') : JS E m s H' :=
  ⟨js.len, js.nod, js.pu, js.dis, fun a ha => let ⟨o, h1, h2⟩ := js.exs a ha; ⟨o, g a o h1, h2⟩, fun i b o hi => by
    obtain ⟨a, k, u, h1, h2, h3⟩ := js.at_ i b o hi
    exact ⟨a, k, u, h1, h2.mono .refl (fun a o _ h => g a o h), Lk.keep h3 fun o' q => g _ _ q⟩⟩
theorem Grow.keep (g : Grow H H') : Keep m H H' := fun a o _ h => g a o h
theorem keep_grow (k : Keep [] H H') : Grow H H' := fun a o h => k a o (fun z => by cases z) h
end
/-! ### the judgements -/
def EqB (X : Cx) (E : RE) (n : Nat) (F : Fq) : Prop := ∀ (A : Around) (pins : List (Addr × Obj)) (s : Shared) (σ : L2.St) (H : Hp) (x y : T) (v w : V) (u u' : Value) (b : Bool), L2.Sub X n A → Inv X pins σ H s → RelV v u → RelV w u' → JS E [] [] H → R E [] H x v → R E [] H y w → F x y = some b →
  wpAny (model X.prog X.w) A (eqBool u u') (fun r s' => r = b ∧ ∃ H', Inv X pins σ H' s' ∧ JS E [] [] H' ∧ Grow H H') X.xe s
def RcB (X : Cx) (E : RE) (n : Nat) (F : Fq) : Prop := ∀ (A : Around) (pins : List (Addr × Obj)) (s : Shared) (σ : L2.St) (H : Hp) (x y : T) (v w : V) (u u' : Value) (b : Bool), L2.Sub X n A → Inv X pins σ H s → RelV v u → RelV w u' → JS E [] [] H → R E [] H x v → R E [] H y w → F x y = some b →
  wpAny (model X.prog X.w) A (richCompare .Eq u u') (fun r s' => r = .bool b ∧ ∃ H', Inv X pins σ H' s' ∧ JS E [] [] H' ∧ Grow H H') X.xe s
def isRef : T → Bool
  | .non => false | .bl _ => false | .int _ => false | .str _ => false
  | _ => true
/-- with care for one and the same thing -/
def safe (F : Fq) : Fq := fun x y => if (isRef x && isRef y) = true then match F x y with | some b => if (b || !may x y) = true then some b else none | none => none else none
def qAlt (F G : Fq) : Fq := fun x y => match F x y with | some b => some b | none => G x y
def flatO : T → Option V
  | .non => some .non | .bl b => some (.bl b) | .int i => some (.int i) | .str x => some (.str x)
  | _ => none
def qFlat : Fq := fun x y => match flatO x, flatO y with | some a, some b => some (eqV a b) | _, _ => none
def qs (F : Fq) : List T → List T → Option Bool
  | [], [] => some true
  | x :: xs, y :: ys => match F x y with | some true => qs F xs ys | some false => some false | none => none
  | _, _ => some false
def qTup (F : Fq) : Fq := fun x y => match asT x, asT y with | some xs, some ys => qs F xs ys | _, _ => none
def qLst (F : Fq) : Fq := fun x y => match x, y with | .lst xs, .lst ys => if xs.length = ys.length then qs F xs ys else some false | _, _ => none
def qIns (fn : Nat → List Str) (c0 : Nat) (FF : List T → Sto → Z T) : Fq := fun x y => match insOf fn c0 [] x, insOf fn c0 [] y with | some _, some _ => (match noX (FF [x, y] []) with | .ok (.bl b) _ => some b | _ => none) | _, _ => none
section
variable {X : Cx} {E : RE} {n k : Nat} {F G : Fq}
theorem isRef_ok {x : T} {v : V} {m : Ma} {H : Hp} (h : isRef x = true) (r : R E m H x v) : ∃ a, v = .ref a := by
  cases x with
  | non => cases h
  | bl _ => cases h
  | int _ => cases h
  | str _ => cases h
  | tup _ => obtain ⟨a, _, e, _⟩ := r; exact ⟨a, e⟩
  | lst _ => obtain ⟨a, _, e, _⟩ := r; exact ⟨a, e⟩
  | scr _ => obtain ⟨a, _, e, _⟩ := r; exact ⟨a, e⟩
  | tupK _ => obtain ⟨a, _, e, _⟩ := r; exact ⟨a, e⟩
  | dK _ _ => obtain ⟨a, _, e, _⟩ := r; exact ⟨a, e⟩
  | dT _ _ => obtain ⟨a, _, e, _⟩ := r; exact ⟨a, e⟩
  | ins _ _ => obtain ⟨a, _, _, e, _⟩ := r; exact ⟨a, e⟩
  | cell _ => obtain ⟨a, _, e⟩ := r; exact ⟨a, e⟩
theorem EqB.mono (h : EqB X E n F) (hn : n ≤ k) : EqB X E k F := fun A pins s σ H x y v w u u' b sb => h A pins s σ H x y v w u u' b (sb.mono hn)
theorem EqB.alt (h : EqB X E n F) (h' : EqB X E n G) : EqB X E n (qAlt F G) := fun A pins s σ H x y v w u u' b sb I r1 r2 js rx ry e => by
  unfold qAlt at e
  cases q : F x y with
  | some c => rw [q] at e; cases e; exact h A pins s σ H x y v w u u' _ sb I r1 r2 js rx ry q
  | none => rw [q] at e; exact h' A pins s σ H x y v w u u' _ sb I r1 r2 js rx ry e
theorem RcB.safe (h : RcB X E n F) : EqB X E n (safe F) := fun A pins s σ H x y v w u u' b sb I r1 r2 js rx ry e => by
  unfold Sh.safe at e
  by_cases hi : (isRef x && isRef y) = true
  case neg => rw [if_neg hi] at e; cases e
  rw [if_pos hi] at e
  rw [Bool.and_eq_true] at hi
  cases q : F x y with
  | none => rw [q] at e; cases e
  | some c =>
    rw [q] at e
    dsimp only at e
    by_cases hm : (c || !may x y) = true
    case neg => rw [if_neg hm] at e; cases e
    rw [if_pos hm] at e
    cases e
    obtain ⟨a1, rfl⟩ := isRef_ok hi.1 rx
    obtain ⟨a2, rfl⟩ := isRef_ok hi.2 ry
    cases r1
    cases r2
    by_cases hab : a1 = a2
    · subst hab
      rw [may_ok rx ry] at hm
      have hb : b = true := by simpa using hm
      subst hb
      exact SeqAt.EqAt.same (A := A) (s := s) (.ref a1) X.prog X.w X.xe _ ⟨rfl, H, I, js, fun _ _ h => h⟩
    · refine ShQ.refs2 hab (wpAny_mono (h A pins s σ H x y (.ref a1) (.ref a2) _ _ b sb I rfl rfl js rx ry q) (fun r s' z => ?_) fun _ _ z => z)
      obtain ⟨e1, z⟩ := z
      exact ⟨b, e1, rfl, z⟩
theorem eqB_flat : EqB X E 0 qFlat := fun A pins s σ H x y v w u u' b sb I r1 r2 js rx ry e => by
  have fl : ∀ {t : T} {a v : V}, flatO t = some a → R E [] H t v → v = a ∧ flatV a = true := fun {t a v} h r => by
    cases t with
    | non => cases h; exact ⟨r, rfl⟩
    | bl _ => cases h; exact ⟨r, rfl⟩
    | int _ => cases h; exact ⟨r, rfl⟩
    | str _ => cases h; exact ⟨r, rfl⟩
    | _ => cases h
  unfold qFlat at e
  cases hx : flatO x with
  | none => rw [hx] at e; cases e
  | some a =>
    cases hy : flatO y with
    | none => rw [hx, hy] at e; cases e
    | some c =>
      rw [hx, hy] at e
      cases e
      obtain ⟨rfl, f1⟩ := fl hx rx
      obtain ⟨rfl, f2⟩ := fl hy ry
      exact eqAt_V (A := A) (s := s) r1 r2 f1 f2 X.prog X.w X.xe _ ⟨rfl, H, I, js, fun _ _ h => h⟩
/-- what stands in the loops -/
def QI (X : Cx) (E : RE) (F : Fq) (pins : List (Addr × Obj)) (σ : L2.St) (H : Hp) (xs ys : List T) (b : Bool) (i : Nat) (s' : Shared) : Prop := (∃ H', Inv X pins σ H' s' ∧ JS E [] [] H' ∧ Grow H H') ∧ qs F (xs.drop i) (ys.drop i) = some b
def QN (X : Cx) (E : RE) (pins : List (Addr × Obj)) (σ : L2.St) (H : Hp) (b : Bool) (s' : Shared) : Prop := (∃ H', Inv X pins σ H' s' ∧ JS E [] [] H' ∧ Grow H H') ∧ b = false
theorem turn2 (h : EqB X E n F) {A : Around} (sb : L2.Sub X (n + 1) A) {pins : List (Addr × Obj)} {σ : L2.St} {H : Hp} {xs ys : List T} {vs ws : List V} {its its2 : List Value} {b : Bool} (rx : Rs E [] H xs vs) (ry : Rs E [] H ys ws) (r : Vals vs its) (r2 : Vals ws its2) (i : Nat) (h1 : i < its.toArray.size) (h2 : i < its2.toArray.size) (s' : Shared) (q : QI X E F pins σ H xs ys b i s') :
    wpAny (model X.prog X.w) A.in1 (eqBool its.toArray[i] its2.toArray[i]) (fun r s2 => if r = true then QI X E F pins σ H xs ys b (i + 1) s2 else QI X E F pins σ H xs ys b i s2 ∧ QN X E pins σ H b s2) X.xe s' := by
  obtain ⟨⟨H1, I1, js1, g1⟩, e⟩ := q
  have c1 : i < its.length := by simpa using h1
  have c2 : i < its2.length := by simpa using h2
  have d1 : i < vs.length := by rw [r.length]; exact c1
  have d2 : i < ws.length := by rw [r2.length]; exact c2
  have x1 : i < xs.length := by rw [rx.length]; exact d1
  have x2 : i < ys.length := by rw [ry.length]; exact d2
  obtain ⟨v, gv, rv⟩ := at_ok rx (List.getElem?_eq_getElem x1)
  obtain ⟨w, gw, rw'⟩ := at_ok ry (List.getElem?_eq_getElem x2)
  obtain ⟨u, hu, ru⟩ := r.get gv
  obtain ⟨u2, hu2, ru2⟩ := r2.get gw
  have t1 : its.toArray[i] = u := by
    rw [List.getElem?_eq_getElem c1] at hu
    simpa using Option.some.inj hu
  have t2 : its2.toArray[i] = u2 := by
    rw [List.getElem?_eq_getElem c2] at hu2
    simpa using Option.some.inj hu2
  rw [t1, t2]
  have e0 := e
  rw [List.drop_eq_getElem_cons x1, List.drop_eq_getElem_cons x2] at e
  unfold qs at e
  cases q : F xs[i] ys[i] with
  | none => rw [q] at e; cases e
  | some c =>
    rw [q] at e
    refine wpAny_mono (h A.in1 pins s' σ H1 _ _ v w u u2 c sb.in1 I1 ru ru2 js1 (rv.mono .refl g1.keep) (rw'.mono .refl g1.keep) q) (fun r s2 z => ?_) fun _ _ z => z
    obtain ⟨er, H2, I2, js2, g2⟩ := z
    subst er
    have gg : Grow H H2 := fun a o k => g2 a o (g1 a o k)
    cases r with
    | true => rw [if_pos rfl]; exact ⟨⟨H2, I2, js2, gg⟩, e⟩
    | false => rw [if_neg Bool.false_ne_true]; cases e; exact ⟨⟨⟨H2, I2, js2, gg⟩, e0⟩, ⟨H2, I2, js2, gg⟩, rfl⟩
theorem rcB_lst (h : EqB X E n F) : RcB X E (n + 1) (qLst F) := fun A pins s σ H x y v w u u' b sb I r1 r2 js rx ry e => by
  unfold qLst at e
  split at e
  case h_2 => cases e
  rename_i xs ys
  obtain ⟨a1, vs, rfl, n1, s1, rs1⟩ := rx
  obtain ⟨a2, ws, rfl, n2, s2, rs2⟩ := ry
  cases r1
  cases r2
  by_cases hl : xs.length = ys.length
  · rw [if_pos hl] at e
    refine ShQ.rc_list2 (N := xs.length) sb.room.units0 (fun i s' => QI X E F pins σ H xs ys b i s') (fun s' => QN X E pins σ H b s') (fun i s' q => ?_) (fun s' q => ?_) (fun s' q => ?_) ⟨⟨H, I, js, fun _ _ h => h⟩, e⟩
    · obtain ⟨⟨H1, I1, js1, g1⟩, _⟩ := id q
      obtain ⟨z1, t1, k1, p1, e1⟩ := I1.hok a1 _ (g1 _ _ s1)
      obtain ⟨z2, t2, k2, p2, e2⟩ := I1.hok a2 _ (g1 _ _ s2)
      refine ⟨t1.toArray, t2.toArray, k1, k2, e1, e2, by rw [List.size_toArray, ← p1.length, ← rs1.length], by rw [List.size_toArray, ← p2.length, ← rs2.length, hl], fun h1 h2 => ?_⟩
      exact turn2 h sb rs1 rs2 p1 p2 i h1 h2 s' q
    · obtain ⟨z, eq⟩ := q
      rw [List.drop_length, hl, List.drop_length] at eq
      cases eq
      exact ⟨rfl, z⟩
    · obtain ⟨z, rfl⟩ := q
      exact ⟨rfl, z⟩
  · rw [if_neg hl] at e
    cases e
    obtain ⟨z1, t1, k1, p1, e1⟩ := I.hok a1 _ s1
    obtain ⟨z2, t2, k2, p2, e2⟩ := I.hok a2 _ s2
    exact ShQ.rc_list2n sb.room.units0 e1 e2 (by rw [List.size_toArray, List.size_toArray, ← p1.length, ← p2.length, ← rs1.length, ← rs2.length]; exact hl) ⟨rfl, H, I, js, fun _ _ h => h⟩
theorem qs_end {F : Fq} : ∀ {xs ys : List T} {b : Bool}, qs F (xs.drop (min xs.length ys.length)) (ys.drop (min xs.length ys.length)) = some b → b = decide (xs.length = ys.length)
  | xs, ys, b, e => by
    rcases Nat.lt_trichotomy xs.length ys.length with h | h | h
    · rw [Nat.min_eq_left (Nat.le_of_lt h), List.drop_length, List.drop_eq_getElem_cons h] at e
      cases e
      simp; omega
    · rw [h, Nat.min_self, List.drop_length, ← h, List.drop_length] at e
      cases e
      simp [h]
    · rw [Nat.min_eq_right (Nat.le_of_lt h), List.drop_length, List.drop_eq_getElem_cons h] at e
      cases e
      simp; omega
theorem rcB_tup (hK : X.K = E.K) (h : EqB X E n F) : RcB X E (n + 1) (qTup F) := fun A pins s σ H x y v w u u' b sb I r1 r2 js rx ry e => by
  unfold qTup at e
  cases hx : asT x with
  | none => rw [hx] at e; cases e
  | some xs =>
    cases hy : asT y with
    | none => rw [hx, hy] at e; cases e
    | some ys =>
      rw [hx, hy] at e
      obtain ⟨a1, vs, rfl, s1, rs1⟩ := asT_ok hx rx
      obtain ⟨a2, ws, rfl, s2, rs2⟩ := asT_ok hy ry
      cases r1
      cases r2
      obtain ⟨t1, p1, g1, _⟩ := I.tuple (hK ▸ s1)
      obtain ⟨t2, p2, g2, _⟩ := I.tuple (hK ▸ s2)
      have l1 : t1.toArray.size = xs.length := by rw [List.size_toArray, ← p1.length, ← rs1.length]
      have l2 : t2.toArray.size = ys.length := by rw [List.size_toArray, ← p2.length, ← rs2.length]
      refine ShQ.rc_tup2 sb.room.units0 (fun i s' => QI X E F pins σ H xs ys b i s') (fun s' => QN X E pins σ H b s') g1 g2 (fun i h1 h2 s' q => ?_) (fun s' q => ?_) (fun s' q => ?_) ⟨⟨H, I, js, fun _ _ h => h⟩, e⟩
      · refine wpAny_mono (turn2 h sb rs1 rs2 p1 p2 i h1 h2 s' q) (fun r s2 z => ?_) fun _ _ z => z
        cases r with
        | true => exact z
        | false => exact z.2
      · obtain ⟨z, eq⟩ := q
        rw [l1, l2] at eq
        refine ⟨?_, z⟩
        rw [qs_end eq, l1, l2]
        congr 1
      · obtain ⟨z, rfl⟩ := q
        exact ⟨rfl, z⟩
theorem rcB_ins {c0 : Nat} {FF : List T → Sto → Z T} (O : Own X E c0 "__eq__" n 2 FF) : RcB X E n (qIns E.fn c0 FF) := fun A pins s σ H x y v w u u' b sb I r1 r2 js rx ry e => by
  unfold qIns at e
  cases hx : insOf E.fn c0 [] x with
  | none => rw [hx] at e; cases e
  | some p1 =>
    cases hy : insOf E.fn c0 [] y with
    | none => rw [hx, hy] at e; cases e
    | some p2 =>
      rw [hx, hy] at e
      dsimp only at e
      rcases noX_cases (FF [x, y] []) with ⟨t, s2, h0, h1⟩ | h1
      case inr => rw [h1] at e; cases e
      rw [h1] at e
      cases t with
      | bl c =>
        cases e
        obtain ⟨a1, ox, od, rfl, rfl, J, _⟩ := ins_at (ns := p1.1) (xs := p1.2) I hx js rx r1
        obtain ⟨a2, ox2, od2, rfl, rfl, J2, _⟩ := ins_at (ns := p2.1) (xs := p2.2) I hy js ry r2
        have hp : PZ E W0 (R E) [] H (fun v H' => v = .bl b ∧ JS E [] [] H' ∧ Grow H H') (FF [x, y] []) := by
          rw [h0]
          intro v H' m' e k js' rv
          have jt := js'.take 0
          rw [List.take_zero, List.take_zero] at jt
          exact ⟨rv, jt, keep_grow k⟩
        obtain ⟨g, f1, f2, f3, hc⟩ := own_run O sb pass0 I (us := [.ref a1, .ref a2]) (.cons r1 (.cons r2 .nil)) js (as := [x, y]) ⟨_, _, rfl, rx, _, _, rfl, ry, rfl⟩ hp
        obtain ⟨mm, hF⟩ := I.fr
        refine PySem.W.cmp_K (op := .Eq) (tb := .ref (E.ca c0)) sb.room.units0 hF I.ok.mod.kin J J2.type (by simp [PySem.W.notFirst]) f1 f2 (wpAny_mono (wpAny_call hc) (fun r s' z => ?_) fun _ _ z => z)
        obtain ⟨w, H', I', rw', rfl, jz, gz⟩ := z
        cases (show r = Value.bool b from rw')
        exact ⟨rfl, H', I', jz, gz⟩
      | _ => cases e
/-- a == b by such an answer -/
def hEqB (F : Fq) : T → T → Sto → Z T := fun a b s => if (pur a && pur b) = true then match F a b with | some r => .ok (.bl r) s | none => .bad else .bad
theorem o_eqB {W : XK} (h : RcB X E n F) (hr : Room n X.A) : OpR X (compareOp .Eq) (rF2 E W (hEqB F)) := by
  intro pins s σ H x y v u Q I rx ry ⟨t, d, st, m, js, ra, rb, q⟩
  unfold hEqB at q
  by_cases hp : (pur t && pur d) = true
  case neg => rw [if_neg hp] at q; exact q.elim
  rw [if_pos hp] at q
  rw [Bool.and_eq_true] at hp
  cases hF : F t d with
  | none => rw [hF] at q; exact q.elim
  | some b =>
    rw [hF] at q
    have j0 := js.take 0
    have r0 := ra.take 0 hp.1
    have r1 := rb.take 0 hp.2
    rw [List.take_zero] at j0 r0 r1
    rw [List.take_zero] at j0
    show wpAny (model X.prog X.w) X.A (richCompare .Eq v u) (EP X pins σ Q) X.xe s
    refine wpAny_mono (h X.A pins s σ H t d x y v u b (room_sub hr) I rx ry j0 r0 r1 hF) (fun r s' z => ?_) fun _ _ z => z
    obtain ⟨e1, H', I', _, g⟩ := z
    subst e1
    exact ⟨.bl b, H', I', rfl, q (.bl b) H' m .refl g.keep (js.grow g) rfl⟩
end
end Sh

set_option Elab.async false
set_option linter.all false
set_option maxRecDepth 100000
set_option maxHeartbeats 4000000
namespace Sh
open PySem PySem.Spec PyProof.Rows L2
/-! ### dict comprehensions whose keys are tuples -/
/-- a dict stores, of either kind of keys -/
theorem d_dset {X : Cx} {pins : List (Addr × Obj)} {σ : L2.St} {H H' : Hp} {s : Shared} {Ex : Value → Shared → Prop} {D : Addr} {y v : V} {u r : Value} {Q : Unit → Shared → Prop} (hu : X.A.units + 1 < cLine) (I : Inv X pins σ H s) (g : DPut H D y v H') (ry : RelV y u) (rv : RelV v r) (h : ∀ s', Inv X pins σ H' s' → Q () s') :
    wpAny (model X.prog X.w) X.A (dictSet D u r) Q Ex s := by
  rcases g with ⟨kvs, k, e, rfl, l, rfl⟩ | ⟨kvs, k, b, e, rfl, eb, l, rfl⟩
  · exact d_dictSet I e l ry rv h
  · cases (show u = Value.ref b from ry)
    obtain ⟨z1, z2, xs, rel, dd⟩ := dt_of I.hok e
    have zl : (putK kvs k v).length ≤ sizeLine := by have := length_putK kvs k v; omega
    refine wpAny_dictSet_heap (hsz := by rw [← Paired.length rel]; exact z1) (show (tupleKind (mixKind X.prog X.w)).room X.A from Nat.lt_of_succ_lt hu) (key_of I.hok eb) dd fun h2 d2 sb => h _ ?_
    obtain ⟨o, es, ep, ho, c1, c2, c3, _, c4⟩ := d2
    refine d_write I (by rw [e]; exact True.intro) sb ⟨o, ho⟩ ⟨zl, z2, _, (rel.put k eb rv).keeps fun c ys ec => ?_, o, es, ep, ho, c1, c2, c3, c4⟩
    rw [upd_ne (ne_of ec e fun z => nomatch z)]
    exact ec
section
variable {X : Cx}
/-- {k: v for ..}, its keys tuples -/
def tDcT (wi : TI) (g : TG) (tt : TT) (tk tv : TE) (vs : List Nat) : TE := fun σ H Q => wi σ H fun Jt H1 => ∀ D, H1 D = none → ∃ W' : Nat → Nat → Hp → Prop, (∃ m, W' 0 m (upd H1 D (.dT []))) ∧ ∀ i m H, W' i m H →
  (Jt.stop i H ∧ Q (.ref D) H) ∨ (Jt.go i H ∧ ∃ Nx : Hp → Prop, (∀ H', Nx H' → ∃ m', m' < m ∧ W' (i + 1) m' H') ∧ ∀ x H', Jt.yld i H x H' → g x (L2.wipe σ vs) H' fun σ2 H2 => L2.wipe σ2 vs = L2.wipe σ vs ∧ tt σ2 H2 fun b H3 =>
    if b = true then tk σ2 H3 fun y H4 => tv σ2 H4 fun z H5 => ∃ kvs k q, y = .ref q ∧ H5 q = some (.tup (k.map kV)) ∧ H5 D = some (.dT kvs) ∧ kvs.length < sizeLine ∧ Nx (upd H5 D (.dT (putK kvs k z))) else Nx H3)
theorem dcT_core {pins : List (Addr × Obj)} {s : Shared} {σ : L2.St} {H : Hp} {Q : VK} {kx vx tg iter : Expr} {ifs : List Expr} {scope : Scope} {own : List (Str × Nat)} {pos pos' : Pos} {wi : TI} {g : TG} {tt : TT} {tk tv : TE} {use : Option (Value → Sem Unit)} {Qf : Value → Shared → Prop} (hu : X.A.units + 1 < cLine) (hc : X.calm = true) (hN : X.N.Nodup) (ok : BlkOk X.N X.env.scope scope own)
    (I : Inv X pins σ H s) (hi : PI X tg iter wi) (hg : ∀ (s : Shared) (H : Hp) (C : Addr) (cl : List (Str × Addr)) (fp : List Addr), PG (X.blk s H scope (compEnvC scope cl C X.env) fp) tg g)
    (ht : ∀ (s : Shared) (H : Hp) (C : Addr) (cl : List (Str × Addr)) (fp : List Addr), PTs (X.blk s H scope (compEnvC scope cl C X.env) fp) ifs tt) (hk : ∀ (s : Shared) (H : Hp) (C : Addr) (cl : List (Str × Addr)) (fp : List Addr), PE (X.blk s H scope (compEnvC scope cl C X.env) fp) kx tk)
    (hv : ∀ (s : Shared) (H : Hp) (C : Addr) (cl : List (Str × Addr)) (fp : List Addr), PE (X.blk s H scope (compEnvC scope cl C X.env) fp) vx tv) (hs : ∀ x, foldedSetIterable iter X.env x = pure x) (h : tDcT wi g tt tk tv (own.map (·.2)) σ H Q)
    (back : ∀ D C s' m H', Inv X pins σ H' s' → Q (.ref D) H' → s'.heap.Ns C m → FpOk X pins H' C → compPost (model X.prog X.w) X.A X.xe use Qf (.ref D) C (.ok .next) s') : wpAny (model X.prog X.w) X.A (comprehension (.DictComp kx vx [⟨tg, iter, ifs, 0⟩] scope pos) scope X.env pos' newDict false (eval iter X.env) use) Qf X.xe s := by
  have free : ∀ y ∈ scope.names, y.2 = .free → ∃ c, X.env.cells.lookup y.1 = some c := fun y hy e => (ok.free y hy e).elim (fun z => I.ok.has _ (.inl z)) fun z => I.ok.has _ (.inr z)
  refine wpAny_comprehension_free (use := use) rfl hs (closure_ok free) ok.kind (fun y hy e => by rw [ok.uniq y hy, e]) (thn (hi.run pins s σ H _ I h) fun xv s1 hx => thn hx fun itv s2 h2 => ?_)
  obtain ⟨it, fp, tn, Jt, H2, rfl, I2, Tr, t2, n2, turn0⟩ := h2
  refine wpAny_newObj_type (newEnv_comp ?_)
  generalize eD : s2.heap.objs.size = D
  have freshD : H2 D = none := I2.hok.fresh (Nat.le_of_eq eD)
  obtain ⟨W', ⟨m0, w0⟩, turn⟩ := turn0 D freshD
  generalize es3 : ({ s2 with heap := s2.heap.push { cls := .type "dict", data := .dict #[] } } : Shared) = s3
  have I3 : Inv X pins σ (upd H2 D (.dT [])) s3 := by
    subst es3
    refine I2.laid (t' := s2.toks) (fun _ _ e => Heap.get?_push_of_some _ e) (Nat.le_of_eq eD) ?_
    subst eD
    exact dt_empty s2.heap I2.big
  have heap3 : s3.heap = s2.heap.push { cls := .type "dict", data := .dict #[] } := by rw [← es3]
  have below : ∀ b ∈ fp, b < s2.heap.objs.size := fun b hb => let ⟨o, e, _⟩ := Tr.obj _ _ t2 b hb; Heap.lt_size e
  have n3 : ∀ b ∈ fp, FpOk X pins (upd H2 D (.dT [])) b ∧ b < s3.heap.objs.size := fun b hb => by
    have lt := below b hb
    refine ⟨⟨?_, (n2 b hb).2⟩, by rw [heap3, Heap.size_push]; exact Nat.lt_succ_of_lt lt⟩
    rw [upd_ne (by rw [← eD]; exact Nat.ne_of_lt lt)]
    exact (n2 b hb).1
  have t3 : tn 0 s3.heap := Tr.keep _ _ _ t2 fun _ _ _ e => by rw [heap3]; exact Heap.get?_push_of_some _ e
  have I4 := block_start I3 ok hN n3
  generalize ecl : cellsFrom (s3.heap.objs.size + 1) scope.names (cloFrom X.env.cells scope.names []) = cl at I4
  have pg := hg s3 (upd H2 D (.dT [])) s3.heap.objs.size cl fp
  have pt := ht s3 (upd H2 D (.dT [])) s3.heap.objs.size cl fp
  have pk := hk s3 (upd H2 D (.dT [])) s3.heap.objs.size cl fp
  have pv := hv s3 (upd H2 D (.dT [])) s3.heap.objs.size cl fp
  have nfp : ∀ b ∈ fp, (upd H2 D (.dT [])) b = none := fun b hb => (n3 b hb).1.1
  show codeAny _ _ (.compStart (.DictComp kx vx [⟨tg, iter, ifs, 0⟩] scope pos) 0 (.ref it) (.ref D) (compEnvC scope cl s3.heap.objs.size X.env)) (compPost (model X.prog X.w) X.A X.xe use Qf (.ref D) s3.heap.objs.size) { s3 with heap := pushCells (s3.heap.push { cls := .type "dict", data := .dict #[] }) scope.names }
  generalize ece : compEnvC scope cl s3.heap.objs.size X.env = ce at I4 pg pt pk pv ⊢
  have loc : ce.locals = s3.heap.objs.size := by subst ece; rfl
  generalize eH3 : upd H2 D (.dT []) = H3 at I3 I4 pg pt pk pv w0 nfp n3
  generalize es4 : ({ s3 with heap := pushCells (s3.heap.push { cls := .type "dict", data := .dict #[] }) scope.names } : Shared) = s4 at I4 ⊢
  have t4 : tn 0 s4.heap := Tr.keep _ _ _ t3 fun _ _ _ e => by subst es4; exact pushCells_keeps _ _ _ _ (Heap.get?_push_of_some _ e)
  let Y := X.blk s3 H3 scope ce fp
  have stay : ∀ {σ' : L2.St} {H' : Hp} {s' : Shared}, Inv Y [] σ' H' s' → (∀ b ∈ fp, H' b = none) → ∀ b ∈ fp, FpOk Y [] H' b := fun {σ' H' s'} J' hn b hb => ⟨hn b hb, (J'.ok.exf b hb).1, J'.ok.exfs b hb, .inl hb, fun x c e => (J'.ok.exf b hb).2 x c e, fun p hp => by cases hp⟩
  have loop : codeAny (model X.prog X.w) X.A (.compLoop (.DictComp kx vx [⟨tg, iter, ifs, 0⟩] scope pos) 0 (.ref it) (.ref D) ce) (compPost (model X.prog X.w) X.A X.xe use Qf (.ref D) s3.heap.objs.size) s4 := by
    refine compLoop_anyD (fun n s' => ∃ i H', Inv Y [] (L2.wipe σ (own.map (·.2))) H' s' ∧ tn i s'.heap ∧ (∀ b ∈ fp, H' b = none) ∧ W' i n H') ?_ m0 ⟨0, H3, I4, t4, nfp, w0⟩
    rintro n s5 ⟨i, H5, I5, t5, n5, w5⟩
    rcases turn i n H5 w5 with ⟨stop, fin⟩ | ⟨go, Nx, less, one⟩
    · refine thnF (Tr.done Y rfl rfl rfl hc i [] s5 _ H5 (fun _ _ => False) I5 (stay I5 n5) t5 stop) fun r s6 ⟨er, I6⟩ => ?_
      subst er
      have I7 : Inv X pins σ H5 s6 := I3.call' (ch := fp) I6.os I6.base I6.hok I6.bare fun b hb => let z := (n3 b hb).1.2; ⟨z.2.2.1, z.1, z.2.2.2.1, z.2.2.2.2⟩
      have freeC : H5 s3.heap.objs.size = none := loc ▸ I6.free
      obtain ⟨mm, ns, _⟩ := I6.loc
      have ns' : s6.heap.Ns ce.locals mm := ns
      exact back D s3.heap.objs.size s6 mm H5 I7 fin (loc ▸ ns') (I3.fpOk (Nat.le_refl _) freeC)
    · refine thnF (Tr.item Y rfl rfl rfl hc i [] s5 _ H5 (fun _ _ => False) I5 (stay I5 n5) t5 go) fun r s6 ⟨u, er, q6⟩ => ?_
      subst er
      refine thnF q6 fun _ s7 ⟨x, H7, I7, r7, y7, t7, n7⟩ => ?_
      refine thnF (pg.run _ s7 _ H7 x u _ (I7.pinned (stay I7 n7) (Tr.obj _ _ t7)) r7 (one x H7 y7)) fun _ s8 ⟨σ8, H8, I8, w8, q8⟩ => ?_
      refine thnF (pt.run _ s8 σ8 H8 _ I8 q8) fun b s9 ⟨H9, I9, q9⟩ => ?_
      have ends : ∀ {s' : Shared} {H' : Hp}, Inv Y ([] ++ pinsAt fp s7.heap) σ8 H' s' → Nx H' → ∃ m, m < n ∧ ∃ i H', Inv Y [] (L2.wipe σ (own.map (·.2))) H' s' ∧ tn i s'.heap ∧ (∀ b ∈ fp, H' b = none) ∧ W' i m H' := fun {s' H'} J' nx => by
        obtain ⟨m', lt, w'⟩ := less H' nx
        have pin : ∀ b ∈ fp, ∀ o, s7.heap.get? b = some o → s'.heap.get? b = some o ∧ H' b = none := fun b hb o e => let z := J'.pin (b, o) (List.mem_append_right _ (List.mem_append_right _ (mem_pinsAt hb e))); ⟨z.1, z.2.1⟩
        refine ⟨m', lt, i + 1, H', J'.unpinned (pins := []) |>.weak (by rw [← w8, wipe_length]) (fun j v e => ?_), Tr.keep _ _ _ t7 fun b hb o e => (pin b hb o e).1, fun b hb => ?_, w'⟩
        · rw [← w8] at e; exact (wipe_some e).1
        · obtain ⟨o, e, _⟩ := Tr.obj _ _ t7 b hb
          exact (pin b hb o e).2
      cases b with
      | false =>
        rw [if_neg Bool.false_ne_true] at q9
        simp only [Bool.false_eq_true, if_false]
        exact ends I9 q9
      | true =>
        rw [if_pos rfl] at q9
        simp only [if_true]
        refine thnF (pk.run _ s9 σ8 H9 _ I9 q9) fun uk s10 ⟨yk, H10, I10, r10, q10⟩ => ?_
        refine thnF (pv.run _ s10 σ8 H10 _ I10 q10) fun uv s11 ⟨yv, H11, I11, r11, kvs, k, qa, ek, e11, d11, l11, nx⟩ => ?_
        subst ek
        exact d_dset (X := Y) hu I11 (DPut.t d11 e11 l11) r10 r11 fun s12 I12 => ends I12 nx
  exact codeAny_compStart_dict loop (Tr.self X.A 0 _ _ _ t4 loop)
theorem pe_dcT {kx vx tg iter : Expr} {ifs : List Expr} {scope : Scope} {own : List (Str × Nat)} {pos : Pos} {wi : TI} {g : TG} {tt : TT} {tk tv : TE} (hu : X.A.units + 1 < cLine) (hc : X.calm = true) (hN : X.N.Nodup) (ok : BlkOk X.N X.env.scope scope own) (hi : PI X tg iter wi)
    (hg : ∀ (s : Shared) (H : Hp) (C : Addr) (cl : List (Str × Addr)) (fp : List Addr), PG (X.blk s H scope (compEnvC scope cl C X.env) fp) tg g) (ht : ∀ (s : Shared) (H : Hp) (C : Addr) (cl : List (Str × Addr)) (fp : List Addr), PTs (X.blk s H scope (compEnvC scope cl C X.env) fp) ifs tt)
    (hk : ∀ (s : Shared) (H : Hp) (C : Addr) (cl : List (Str × Addr)) (fp : List Addr), PE (X.blk s H scope (compEnvC scope cl C X.env) fp) kx tk) (hv : ∀ (s : Shared) (H : Hp) (C : Addr) (cl : List (Str × Addr)) (fp : List Addr), PE (X.blk s H scope (compEnvC scope cl C X.env) fp) vx tv)
    (hs : ∀ x, foldedSetIterable iter X.env x = pure x := by intro _; rfl) : PE X (.DictComp kx vx [⟨tg, iter, ifs, 0⟩] scope pos) (tDcT wi g tt tk tv (own.map (·.2))) := ⟨fun pins s σ H Q I h => by
  rw [arm_eval_DictComp]
  refine dcT_core hu hc hN ok I hi hg ht hk hv hs h fun D C s' m H' I' q hn ⟨g0, g1, g2, g3, g4, g5⟩ => ⟨m, hn, fun h'' sb => ?_⟩
  exact ⟨.ref D, H', I'.turned (t' := s'.toks) (fun b o hb e => (sb.2 b hb).trans e) g0 g1 g3 g4 g5, rfl, q⟩⟩
end
end Sh

set_option Elab.async false
set_option linter.all false
set_option maxRecDepth 100000
set_option maxHeartbeats 4000000
namespace Sh
open PySem PySem.Spec PyProof.Rows L2
section
variable {E : RE} {W : XK} {m m' : Ma} {H H' : Hp} {st s s' : Sto} {X : Cx} {t : T} {v : V} {ρ : Lo} {σ : L2.St}
theorem Fr.adr {y : T} {kk : List Key} {q : Addr} (r : R E m H y (.ref q)) (h : keyT y = some kk) : q ∉ m.ad := by
  cases y with
  | tup ys => obtain ⟨a, vs, ev, na, _⟩ := r; cases ev; exact na.1
  | _ => cases h
/-! ### {k: v for ..}, keys tuples of them -/
def eLoop (g : Tg) (c : Fb) (fk fv : Fx) (ρ : Lo) : List T → List (List Key) → List T → Sto → Z (List (List Key) × List T)
  | [], ks, xs, s => .ok (ks, xs) s
  | x :: rest, ks, xs, s => match g x ρ with
    | none => .bad
    | some ρ' => (noX (c ρ' s)).then fun b s => if b = true then (noX (fk ρ' s)).then fun y s => (noX (fv ρ' s)).then fun z s => match keyT y with
        | some k => if ks.length < lim then eLoop g c fk fv ρ rest (kput ks xs k z).1 (kput ks xs k z).2 s else .bad
        | none => .bad
      else eLoop g c fk fv ρ rest ks xs s
def vEc (vs : List Nat) (fi : Fa) (g : Tg) (c : Fb) (fk fv : Fx) : Fx := fun ρ st => (fi ρ st).then fun xs s => (eLoop g c fk fv (wipeL ρ vs) xs [] [] s).then fun r s => .ok (.dT r.1 r.2) s
def vEcD (vs : List Nat) (p : Pth) (g : Tg) (c : Fb) (fk fv : Fx) : Fx := fun ρ st => match p ρ st with
  | none => .bad
  | some t => match dictKeys st t with
    | none => .bad
    | some ks => if freeT t st = true then (eLoop g c fk fv (wipeL ρ vs) ks [] [] (lockT t st)).then fun r s => .ok (.dT r.1 r.2) (backT t st s) else .bad
theorem eLoop_cases {g : Tg} {c : Fb} {fk fv : Fx} : ∀ (ts : List T) (ks : List (List Key)) (xs : List T) (s : Sto), (∃ r s', eLoop g c fk fv ρ ts ks xs s = .ok r s') ∨ eLoop g c fk fv ρ ts ks xs s = .bad
  | [], ks, xs, s => .inl ⟨_, s, rfl⟩
  | x :: ts, ks, xs, s => by
    unfold eLoop
    cases g x ρ with
    | none => exact .inr rfl
    | some ρ' =>
      dsimp only
      rcases noX_cases (c ρ' s) with ⟨b, s1, _, h⟩ | h
      case inr => rw [h]; exact .inr rfl
      rw [h]
      simp only [Z.then]
      cases b with
      | false =>
        simp only [Bool.false_eq_true, if_false]
        exact eLoop_cases ts ks xs s1
      | true =>
        simp only [if_true]
        rcases noX_cases (fk ρ' s1) with ⟨y, s2, _, h⟩ | h
        case inr => rw [h]; exact .inr rfl
        rw [h]
        simp only [Z.then]
        rcases noX_cases (fv ρ' s2) with ⟨z, s3, _, h⟩ | h
        case inr => rw [h]; exact .inr rfl
        rw [h]
        simp only [Z.then]
        cases keyT y with
        | none => exact .inr rfl
        | some k =>
          dsimp only
          by_cases hl : ks.length < lim
          · rw [if_pos hl]; exact eLoop_cases ts _ _ s3
          · rw [if_neg hl]; exact .inr rfl
/-- a comprehension's walk: as lc_it, for a dict -/
theorem ec_it {Jt : It} {n : Nat} {G : Hp → Prop} {Y : Nat → Hp → V → Hp → Prop} (w : Walk Jt n G Y) {g : TG} {tt : TT} {tk tv : TE} {vs : List Nat} {H1 : Hp} {D : Addr} {Qd : Hp → Prop} (Pv : Nat → Hp → Prop) (h0 : Pv 0 (upd H1 D (.dT []))) (hG : ∀ i H, i ≤ n → Pv i H → G H)
    (hs : ∀ i x H H', i < n → Pv i H → Y i H x H' → g x (L2.wipe σ vs) H' fun σ2 H2 => L2.wipe σ2 vs = L2.wipe σ vs ∧ tt σ2 H2 fun b H3 =>
      if b = true then tk σ2 H3 fun y H4 => tv σ2 H4 fun z H5 => ∃ kvs k q, y = .ref q ∧ H5 q = some (.tup (k.map kV)) ∧ H5 D = some (.dT kvs) ∧ kvs.length < sizeLine ∧ Pv (i + 1) (upd H5 D (.dT (putK kvs k z))) else Pv (i + 1) H3) (hd : ∀ H, Pv n H → Qd H) :
    ∃ W' : Nat → Nat → Hp → Prop, (∃ m, W' 0 m (upd H1 D (.dT []))) ∧ ∀ i m H, W' i m H →
      (Jt.stop i H ∧ Qd H) ∨ (Jt.go i H ∧ ∃ Nx : Hp → Prop, (∀ H', Nx H' → ∃ m', m' < m ∧ W' (i + 1) m' H') ∧ ∀ x H', Jt.yld i H x H' → g x (L2.wipe σ vs) H' fun σ2 H2 => L2.wipe σ2 vs = L2.wipe σ vs ∧ tt σ2 H2 fun b H3 =>
        if b = true then tk σ2 H3 fun y H4 => tv σ2 H4 fun z H5 => ∃ kvs k q, y = .ref q ∧ H5 q = some (.tup (k.map kV)) ∧ H5 D = some (.dT kvs) ∧ kvs.length < sizeLine ∧ Nx (upd H5 D (.dT (putK kvs k z))) else Nx H3) := by
  refine ⟨fun i m H => m + i = n ∧ Pv i H, ⟨n, by omega, h0⟩, fun i m H hw => ?_⟩
  obtain ⟨hmi, p⟩ := hw
  have gg := hG i H (by omega) p
  cases m with
  | zero =>
    have e : i = n := by omega
    subst e
    exact .inl ⟨w.stops H gg, hd H p⟩
  | succ m =>
    have hi : i < n := by omega
    exact .inr ⟨w.goes i H hi gg, Pv (i + 1), fun H' p' => ⟨m, by omega, by omega, p'⟩, fun x H' y => hs i x H H' hi p (w.yields i H x H' hi gg y)⟩
theorem ec_coreF {G : Tg} {sl vs : List Nat} {fc : Fb} {fk fv : Fx} {Qd : Addr → Hp → Prop} {ts : List T} {r : List (List Key) × List T} {Jt : It} {m1 : Ma} {H1 : Hp} {s1 sF : Sto} (hsl : ∀ i ∈ sl, i ∈ vs) (hwk : Wk E m1 H1 Jt ts) (lc1 : Lc E m1 H1 (wipeL ρ vs) (L2.wipe σ vs)) (js1 : JS E m1 s1 H1)
    (hz : eLoop G fc fk fv (wipeL ρ vs) ts [] [] s1 = .ok r sF) (q1 : ∀ D H' m', Ext m1 m' H1 → Keep m1 H1 H' → JS E m' sF H' → R E m' H' (.dT r.1 r.2) (.ref D) → Qd D H') : ∀ D, H1 D = none →
    ∃ W' : Nat → Nat → Hp → Prop, (∃ m, W' 0 m (upd H1 D (.dT []))) ∧ ∀ i m H, W' i m H →
      (Jt.stop i H ∧ Qd D H) ∨ (Jt.go i H ∧ ∃ Nx : Hp → Prop, (∀ H', Nx H' → ∃ m', m' < m ∧ W' (i + 1) m' H') ∧ ∀ x H', Jt.yld i H x H' → anyG E G sl x (L2.wipe σ vs) H' fun σ2 H2 => L2.wipe σ2 vs = L2.wipe σ vs ∧ anyT E fc σ2 H2 fun b H3 =>
        if b = true then anyE E fk σ2 H3 fun y H4 => anyE E fv σ2 H4 fun z H5 => ∃ kvs k q, y = .ref q ∧ H5 q = some (.tup (k.map kV)) ∧ H5 D = some (.dT kvs) ∧ kvs.length < sizeLine ∧ Nx (upd H5 D (.dT (putK kvs k z))) else Nx H3) := by
  obtain ⟨GG, Y, hw, hG, hY⟩ := hwk
  intro D nD
  have hx : Exs E H1 (D :: E.ex) := fun d hd => (List.mem_cons.mp hd).elim (fun z => .inr (by rw [z]; exact nD)) .inl
  have hD : D ∈ (E.x (D :: E.ex)).ex := by simp
  refine ec_it hw (fun i H' => ∃ (ks : List (List Key)) (xs : List T) (vv : List V) (s' : Sto) (m' : Ma), eLoop G fc fk fv (wipeL ρ vs) (ts.drop i) ks xs s' = .ok r sF ∧ Ext m1 m' H1 ∧ Keep m1 H1 H' ∧
      JS (E.x (D :: E.ex)) m' s' H' ∧ H' D = some (.dT (ks.zip vv)) ∧ ks.length = vv.length ∧ Rs (E.x (D :: E.ex)) m' H' xs vv)
    ⟨[], [], [], s1, m1, hz, .refl, keep_new nD, js1.begin nD rfl, upd_same, rfl, rfl⟩ (fun i H' _ ⟨_, _, _, _, m', _, e, k, _⟩ => hG m' H' e k) ?_ ?_
  · rintro i x H' H'' hi ⟨ks, xs, vv, s', m', hc, e2, k2, js2, hDl, hkl, hr⟩ y
    have hi' : ts[i]? = some ts[i] := List.getElem?_eq_getElem hi
    obtain ⟨k3, js3, r3⟩ := hY (D :: E.ex) i _ x m' s' H' H'' hx hi' e2 k2 js2 y
    have k13 : Keep m1 H1 H'' := k2.trans e2 k3
    rw [List.drop_eq_getElem_cons hi] at hc
    unfold eLoop at hc
    cases hg : G ts[i] (wipeL ρ vs) with
    | none => rw [hg] at hc; cases hc
    | some ρ' =>
      rw [hg] at hc
      dsimp only at hc
      refine ⟨D :: E.ex, ts[i], wipeL ρ vs, ρ', m', r3, lc1.monoX hx e2 k13, hg, fun σ2 wp l2 => ⟨wp vs hsl |>.trans ?_, ?_⟩⟩
      · apply List.ext_getElem?
        intro j2
        rw [wipe_get, wipe_get, wipe_length]
        by_cases hj : j2 ∈ vs ∧ j2 < σ.length
        · rw [if_pos hj, if_pos hj]
        · rw [if_neg hj]
      rcases noX_cases (fc ρ' s') with ⟨b, s4, hb0, hb⟩ | hb
      case inr => rw [hb] at hc; cases hc
      rw [hb] at hc
      simp only [Z.then] at hc
      refine ⟨D :: E.ex, ρ', s', m', l2.j js3, ?_⟩
      rw [hb0]
      intro b' H4 m4 e4 k4 js4 rb
      cases rb
      have dm : D ∉ m'.ad := fun z => js3.dis D z hD
      have hD3 : H'' D = some (.dT (ks.zip vv)) := k3 D _ (nf dm) hDl
      have D4 : H4 D = some (.dT (ks.zip vv)) := k4 D _ (nf dm) hD3
      cases b with
      | true =>
        rw [if_pos rfl] at hc ⊢
        rcases noX_cases (fk ρ' s4) with ⟨y1, s5, hy0, hy⟩ | hy
        case inr => rw [hy] at hc; cases hc
        rw [hy] at hc
        simp only [Z.then] at hc
        have l4 := l2.mono e4 k4
        refine ⟨D :: E.ex, ρ', s4, m4, l4.j js4, ?_⟩
        rw [hy0]
        intro yv H5 m5 e5 k5 js5 ry
        rcases noX_cases (fv ρ' s5) with ⟨z1, s6, hz0, hz1⟩ | hz1
        case inr => rw [hz1] at hc; cases hc
        rw [hz1] at hc
        simp only [Z.then] at hc
        refine ⟨D :: E.ex, ρ', s5, m5, (l4.mono e5 k5).j js5, ?_⟩
        rw [hz0]
        intro zv H6 m6 e6 k6 js6 rz
        cases hk : keyT y1 with
        | none => rw [hk] at hc; cases hc
        | some kk =>
          rw [hk] at hc
          dsimp only at hc
          by_cases hlm : ks.length < lim
          case neg => rw [if_neg hlm] at hc; cases hc
          rw [if_pos hlm] at hc
          have dm4 : D ∉ m4.ad := fun z => js4.dis D z hD
          have dm5 : D ∉ m5.ad := fun z => js5.dis D z hD
          have D6 : H6 D = some (.dT (ks.zip vv)) := k6 D _ (nf dm5) (k5 D _ (nf dm4) D4)
          have ee4 : Ext m1 m4 H1 := e2.trans k13 e4
          have kk4 : Keep m1 H1 H4 := k13.trans e2 k4
          have ee5 := ee4.trans kk4 e5
          have kk5 := kk4.trans ee4 k5
          have ee6 := ee5.trans kk5 e6
          have kk6 := kk5.trans ee5 k6
          have hr6 : Rs (E.x (D :: E.ex)) m6 H6 xs vv := (((hr.mono .refl k3).mono e4 k4).mono e5 k5).mono e6 k6
          obtain ⟨ws, p1, p2, p3⟩ := kput_ok (k := kk) hkl hr6 rz
          obtain ⟨qa, eq1, eq2⟩ := keyT_ok hk ry
          refine ⟨ks.zip vv, kk, qa, eq1, k6 _ _ (nf (Fr.adr (eq1 ▸ ry) hk)) eq2, D6, by rw [List.length_zip, ← hkl, Nat.min_self]; exact lim_lt (Nat.le_of_lt hlm), _, _, ws, s6, m6, hc, ee6, ?_, js6.wr hD rfl, by rw [p1]; exact upd_same, p2, Rs.wr hD p3⟩
          intro a o na ha
          rw [upd_ne (ne_of_none ha nD)]
          exact kk6 a o na ha
      | false =>
        rw [if_neg Bool.false_ne_true] at hc ⊢
        exact ⟨ks, xs, vv, s4, m4, hc, e2.trans k13 e4, k13.trans e2 k4, js4, D4, hkl, (hr.mono .refl k3).mono e4 k4⟩
  · rintro H' ⟨ks, xs, vv, s', m', hc, e2, k2, js2, hDl, hkl, hr⟩
    rw [List.drop_length] at hc
    cases hc
    have lss : ∀ d ∈ E.ex, d ∈ (D :: E.ex) := fun d hd => List.mem_cons_of_mem _ hd
    exact q1 D H' m' e2 k2 (js2.less lss) ⟨D, vv, rfl, ⟨fun z => js2.dis D z hD, fun z => js1.exn z nD⟩, .inl hDl, hkl, hr.less lss⟩
theorem x_ec {kx vx tg iter : Expr} {ifs : List Expr} {scope : Scope} {own : List (Str × Nat)} {pos : Pos} {fi : Fa} {G : Tg} {sl : List Nat} {fc : Fb} {fk fv : Fx} (hu : X.A.units + 1 < cLine) (hc : X.calm = true) (hN : X.N.Nodup) (hi : PI X tg iter (tI E W fi)) (ok : BlkOk X.N X.env.scope scope own)
    (hg : ∀ l (s : Shared) (H : Hp) (C : Addr) (cl : List (Str × Addr)) (fp : List Addr), PG (X.blk s H scope (compEnvC scope cl C X.env) fp) tg (tG (E.x l) G sl)) (ht : ∀ l (s : Shared) (H : Hp) (C : Addr) (cl : List (Str × Addr)) (fp : List Addr), PTs (X.blk s H scope (compEnvC scope cl C X.env) fp) ifs (tFb (E.x l) W0 fc))
    (hk : ∀ l (s : Shared) (H : Hp) (C : Addr) (cl : List (Str × Addr)) (fp : List Addr), PE (X.blk s H scope (compEnvC scope cl C X.env) fp) kx (tF (E.x l) W0 fk)) (he : ∀ l (s : Shared) (H : Hp) (C : Addr) (cl : List (Str × Addr)) (fp : List Addr), PE (X.blk s H scope (compEnvC scope cl C X.env) fp) vx (tF (E.x l) W0 fv))
    (hsl : ∀ i ∈ sl, i ∈ own.map (·.2) := by decide) (hs : ∀ x, foldedSetIterable iter X.env x = pure x := by intro _; rfl) :
    PE X (.DictComp kx vx [⟨tg, iter, ifs, 0⟩] scope pos) (tF E W (vEc (own.map (·.2)) fi G fc fk fv)) :=
  (pe_dcT hu hc hN ok hi (fun s H C cl fp => pg_any fun l => hg l s H C cl fp) (fun s H C cl fp => pts_any fun l => ht l s H C cl fp) (fun s H C cl fp => pe_any fun l => hk l s H C cl fp) (fun s H C cl fp => pe_any fun l => he l s H C cl fp) hs).weak fun σ H Q ⟨ρ, st, m, j, hp⟩ => by
    refine ⟨ρ, st, m, j, PZ.imp (fun Jt H1 z => ?_) (PZ.then (rel := fun m' H' ts J => Wk E m' H' J ts) hp)⟩
    obtain ⟨ts, s1, m1, _, e1, k1, js1, hwk, q1⟩ := z
    rcases eLoop_cases (g := G) (c := fc) (fk := fk) (fv := fv) (ρ := wipeL ρ (own.map (·.2))) ts [] [] s1 with ⟨r, sF, hz⟩ | hz
    case inr => rw [hz] at q1; exact q1.elim
    rw [hz] at q1
    exact ec_coreF hsl hwk ((j.lc.mono e1 k1).wipe _) js1 hz fun D H' m' e k js r => q1 (.ref D) H' m' e k js r
theorem x_ecD {kx vx tg iter : Expr} {ifs : List Expr} {scope : Scope} {own : List (Str × Nat)} {pos : Pos} {p : Pth} {tp : TE} {G : Tg} {sl : List Nat} {fc : Fb} {fk fv : Fx} (hu : X.A.units + 1 < cLine) (hc : X.calm = true) (hN : X.N.Nodup) (he0 : PE X iter tp) (hpth : PthR E p tp) (ok : BlkOk X.N X.env.scope scope own)
    (hg : ∀ l (s : Shared) (H : Hp) (C : Addr) (cl : List (Str × Addr)) (fp : List Addr), PG (X.blk s H scope (compEnvC scope cl C X.env) fp) tg (tG (E.x l) G sl)) (ht : ∀ l (s : Shared) (H : Hp) (C : Addr) (cl : List (Str × Addr)) (fp : List Addr), PTs (X.blk s H scope (compEnvC scope cl C X.env) fp) ifs (tFb (E.x l) W0 fc))
    (hk : ∀ l (s : Shared) (H : Hp) (C : Addr) (cl : List (Str × Addr)) (fp : List Addr), PE (X.blk s H scope (compEnvC scope cl C X.env) fp) kx (tF (E.x l) W0 fk)) (he : ∀ l (s : Shared) (H : Hp) (C : Addr) (cl : List (Str × Addr)) (fp : List Addr), PE (X.blk s H scope (compEnvC scope cl C X.env) fp) vx (tF (E.x l) W0 fv))
    (hsl : ∀ i ∈ sl, i ∈ own.map (·.2) := by decide) (hs : ∀ x, foldedSetIterable iter X.env x = pure x := by intro _; rfl) :
    PE X (.DictComp kx vx [⟨tg, iter, ifs, 0⟩] scope pos) (tF E W (vEcD (own.map (·.2)) p G fc fk fv)) := by
  have h := pe_dcT (pos := pos) hu hc hN ok (pi_keys he0) (fun s H C cl fp => pg_any fun l => hg l s H C cl fp) (fun s H C cl fp => pts_any fun l => ht l s H C cl fp) (fun s H C cl fp => pe_any fun l => hk l s H C cl fp) (fun s H C cl fp => pe_any fun l => he l s H C cl fp) hs
  refine ((pe_lock h).or h).weak fun σ H Q ⟨ρ, st, m, j, hp⟩ => ?_
  unfold vEcD at hp
  cases hpt : p ρ st with
  | none => rw [hpt] at hp; exact hp.elim
  | some t =>
    rw [hpt] at hp
    dsimp only at hp
    cases hks : dictKeys st t with
    | none => rw [hks] at hp; exact hp.elim
    | some ks =>
      rw [hks] at hp
      dsimp only at hp
      by_cases hf : freeT t st = true
      case neg => rw [if_neg hf] at hp; exact hp.elim
      rw [if_pos hf] at hp
      rcases eLoop_cases (g := G) (c := fc) (fk := fk) (fv := fv) (ρ := wipeL ρ (own.map (·.2))) ks [] [] (lockT t st) with ⟨r2, sF, hz⟩ | hz
      case inr => rw [hz] at hp; exact hp.elim
      rw [hz] at hp
      simp only [Z.then] at hp
      obtain ⟨v, r, hv⟩ := hpth E.ex m ρ st σ H t j hpt
      obtain ⟨d, u, rfl, hu, rd, hwk⟩ := dictKeys_ok (E := E) hks j.sto r
      rcases rd with hd | ⟨o, hd⟩
      · refine .inl ⟨d, u, hd, mut_dc hu, fun od => ?_⟩
        obtain ⟨m', had, js', nfd, back⟩ := lock_ok (E := E) hks j.sto r hd hu od
        obtain ⟨Jt, wk, fin⟩ := hwk m' (upd H d (.frz od u)) od upd_same nfd
        have sw := sw_lock (od := od) hd hu
        have key : ∀ Rr : It → Hp → Prop, Rr Jt (upd H d (.frz od u)) → iKeys tp σ (upd H d (.frz od u)) Rr := fun Rr q => hv _ sw _ ⟨d, od, rfl, fin Rr q⟩
        refine key _ (ec_coreF (Qd := fun D H' => H' d = some (.frz od u) ∧ Q (.ref D) (upd H' d u)) hsl wk ((j.lc.sw sw had).wipe _) js' hz fun D H2 m2 e k js2 rr => ?_)
        obtain ⟨m3, had3, ext3, keep3, js3, h2⟩ := back m2 H2 sF e k js2
        exact ⟨h2, hp (.ref D) _ m3 ext3 keep3 js3 (R.sw (sw_unlock h2 hu) had3 rr)⟩
      · obtain ⟨l1, l2⟩ := tree_free (E := E) j.sto r hd hf
        rw [l1] at hz
        rw [l2] at hp
        obtain ⟨Jt, wk, fin⟩ := hwk m H o hd (nofre j.sto hd)
        have key : ∀ Rr : It → Hp → Prop, Rr Jt H → iKeys tp σ H Rr := fun Rr q => hv H .refl _ ⟨d, o, rfl, fin Rr q⟩
        exact .inr (key _ (ec_coreF (Qd := fun D H' => Q (.ref D) H') hsl wk (j.lc.wipe _) j.sto hz fun D H2 m2 e k js2 rr => hp (.ref D) H2 m2 e k js2 rr))
end
end Sh

set_option Elab.async false
set_option linter.all false
set_option maxRecDepth 100000
set_option maxHeartbeats 4000000
namespace Sh
open PySem PySem.Spec PyProof.Rows L2
/-! ### list(d), list(d.items()) -/
section
variable {prog : Program} {w : World} {A : Around} {Ex : Value → Shared → Prop} {s : Shared}
/-- list(a view of items) -/
theorem list_view {r d : Addr} {es : Array DictEntry} {ep : Nat} {Q : Value → Shared → Prop} (hh : A.handled = none) (hv : s.heap.IsItemsView r d) (hm : DT.Raw s.heap d es ep) (hn : es.size ≤ sizeLine)
    (hQ : ∀ h' tk acc c as, (∀ b o, s.heap.get? b = some o → h'.get? b = some o) → h'.get? s.heap.objs.size = some { cls := .type "list", dict := none, data := .seq acc c, slots := #[] } → as.length = es.size → DT.Made es s.heap.objs.size h' as → acc.toList = as.map Value.ref → Q (.ref s.heap.objs.size) { s with heap := h', toks := tk }) :
    wpAny (model prog w) A (call (.type "list") [.ref r]) Q Ex s := by
  refine callType_codes (Q₁ := fun ob s₁ => ob = .ref s.heap.objs.size ∧ s₁ = { s with heap := s.heap.push { cls := .type "list", data := .seq #[] } }) PySem.F.called_list (PySem.F.typeCall_list_1 _) PySem.F.entry_list_init (code_list_new _ ⟨rfl, rfl⟩) fun ob s₁ z => ?_
  obtain ⟨rfl, rfl⟩ := z
  have gS : (s.heap.push { cls := .type "list", data := .seq #[] }).get? s.heap.objs.size = some { cls := .type "list", data := .seq #[] } := Heap.get?_push_size _ rfl
  have lr : r < s.heap.objs.size := let ⟨_, ho, _⟩ := hv; Heap.lt_size ho
  have ld : d < s.heap.objs.size := hm.lt
  refine ⟨⟨_, gS, rfl⟩, PySem.F.args_list_init_2 _ _, ?_⟩
  show wpAny _ _ (do let old ← Builtin.List.listItems (.ref s.heap.objs.size); Builtin.List.listUpdate (.ref s.heap.objs.size) (fun _ => #[]); letGo old.toList.reverse; Builtin.List.listExtendWith (.ref s.heap.objs.size) (.ref r) .none) _ _ _
  refine wpAny_bind ?_
  unfold Builtin.List.listItems
  refine wpAny_bind (wpAny_seqItems gS rfl (wpAny_pure ?_))
  show wpAny _ _ (updateSeq s.heap.objs.size (fun _ => #[]) >>= fun _ => letGo (#[] : Array Value).toList.reverse >>= fun _ => Builtin.List.listExtendWith (.ref s.heap.objs.size) (.ref r) .none) _ _ _
  refine wpAny_bind (wpAny_updateSeq gS rfl ?_)
  have gS2 := Heap.get?_update_self (Obj.mapSeq (fun _ => (#[] : Array Value))) gS rfl
  have oth : ∀ b o, b ≠ s.heap.objs.size → s.heap.get? b = some o → ((s.heap.push { cls := .type "list", data := .seq #[] }).update s.heap.objs.size (Obj.mapSeq (fun _ => (#[] : Array Value)))).get? b = some o :=
    fun b o hb e => (Heap.get?_update_other _ _ (Ne.symm hb)).trans (Heap.get?_push_of_some _ e)
  refine wpAny_bind (wpAny_letGo ?_)
  refine DT.extI (es := es) (ep := ep) (A := A.in1) hh (let ⟨o, ho, x⟩ := hv; ⟨o, oth r o (Nat.ne_of_lt lr) ho, x⟩) (hm.at' fun o e => oth d o (Nat.ne_of_lt ld) e) _ (Nat.ne_of_gt lr) (Nat.ne_of_lt ld) .none _ gS2 (fun h' tk acc c as hk hS' hl hG hacc => ?_) hn
  exact ⟨rfl, hQ h' tk acc c as (fun b o e => hk b o (Nat.ne_of_lt (Heap.lt_size e)) (oth b o (Nat.ne_of_lt (Heap.lt_size e)) e)) hS' hl (hG.low (Nat.le_of_lt (Heap.lt_size gS2))) hacc⟩
end
/-- what stands in a dict, key by value -/
def Ent (H : Hp) (h : Heap) (d : Addr) (kv : List (V × V)) : Prop := (d == sysModules) = false ∧ kv.length ≤ sizeLine ∧ ∃ es ep, DT.Raw h d es ep ∧ es.size = kv.length ∧ ∀ (j : Nat) (e : DictEntry), es[j]? = some e → ∃ p, kv[j]? = some p ∧ RelV p.1 e.key ∧ RelV p.2 e.val
section
variable {X : Cx} {E : RE} {m : Ma} {H : Hp} {st : Sto}
theorem ent_K {P : Program} {w : World} {h : Heap} {d : Addr} {kvs : List (Key × V)} (ok : HOk P w H h) (e : Rd H d (.dK kvs)) : Ent H h d (kvs.map fun p => (kV p.1, p.2)) := by
  obtain ⟨z, hd, vs, rel, o, es, ep, ho, hx, hdat, _, pr, _⟩ := dk_rd ok e
  have look : ∀ {l : List DictEntry} {ks : List (Key × V)} {us : List (Key × Value)}, KV ks us → Pairs (mixKind P w) l us → l.length = ks.length ∧ ∀ (j : Nat) (en : DictEntry), l[j]? = some en → ∃ p, (ks.map fun p => (kV p.1, p.2))[j]? = some p ∧ RelV p.1 en.key ∧ RelV p.2 en.val := by
    intro l ks us r q
    induction q generalizing ks with
    | nil => cases r; exact ⟨rfl, fun j en h => by simp at h⟩
    | cons hk hv _ ih =>
      cases r with
      | cons a r =>
        obtain ⟨i1, i2⟩ := ih r
        refine ⟨by simp [i1], fun j en h => ?_⟩
        cases j with
        | zero =>
          simp at h
          subst h
          refine ⟨_, rfl, ?_, ?_⟩
          · dsimp only; rw [a.1]; exact relV_key hk
          · dsimp only; rw [hv]; exact a.2
        | succ j => rw [List.map_cons, List.getElem?_cons_succ]; exact i2 j en (by simpa using h)
  obtain ⟨l1, l2⟩ := look rel pr
  refine ⟨hd, by rw [List.length_map]; exact z, es, ep, ⟨o, ho, hx, hdat⟩, by rw [List.length_map, ← l1, Array.length_toList], fun j en h => l2 j en (by rw [Array.getElem?_toList]; exact h)⟩
theorem ent_T {P : Program} {w : World} {h : Heap} {d : Addr} {kvs : List (List Key × V)} (ok : HOk P w H h) (e : Rd H d (.dT kvs)) : ∃ bs : List Addr, bs.length = kvs.length ∧ (∀ (j : Nat) (b : Addr) (p : List Key × V), bs[j]? = some b → kvs[j]? = some p → H b = some (.tup (p.1.map kV))) ∧ Ent H h d (List.zipWith (fun b p => (V.ref b, p.2)) bs kvs) := by
  obtain ⟨z, hd, xs, rel, o, es, ep, ho, hx, hdat, he, _, _⟩ := dt_rd ok e
  have l1 : kvs.length = xs.length := Paired.length rel
  have l2 : es.size = xs.length := size_of_entries he
  refine ⟨xs.map (·.2.1), by simp [l1], fun j b p h1 h2 => ?_, hd, by rw [List.length_zipWith, List.length_map, l1, Nat.min_self, ← l1]; exact z, es, ep, ⟨o, ho, hx, hdat⟩, by rw [List.length_zipWith, List.length_map, l1, Nat.min_self]; exact l2, fun j en h => ?_⟩
  · rw [List.getElem?_map] at h1
    cases q : xs[j]? with
    | none => rw [q] at h1; cases h1
    | some x =>
      rw [q] at h1
      cases h1
      obtain ⟨y, g1, g2⟩ := L2.DX.pget rel q
      rw [h2] at g1
      cases g1
      exact g2.2.1
  · rw [entry_at he j] at h
    cases q : xs[j]? with
    | none => rw [q] at h; cases h
    | some x =>
      rw [q] at h
      cases h
      obtain ⟨y, g1, g2⟩ := L2.DX.pget rel q
      refine ⟨(.ref x.2.1, y.2), ?_, rfl, g2.2.2⟩
      rw [List.getElem?_zipWith, List.getElem?_map, q, g1]
      rfl
/-- list(d.items()), by what stands in d -/
theorem items_run {pins : List (Addr × Obj)} {σ : L2.St} {s : Shared} {r d : Addr} {kv : List (V × V)} {Q : VK} (hc : X.calm = true) (I : Inv X pins σ H s) (hv : s.heap.IsItemsView r d) (en : Ent H s.heap d kv)
    (hQ : ∀ (H' : Hp) (p : Addr) (ts : List Addr), Grow H H' → H p = none → (∀ t ∈ ts, H t = none) → H' p = some (.lst (ts.map V.ref)) → ts.length = kv.length → (∀ (j : Nat) (t : Addr), ts[j]? = some t → ∃ q, kv[j]? = some q ∧ H' t = some (.tup [q.1, q.2])) → Q (.ref p) H') :
    wpAny (model X.prog X.w) X.A (call (.type "list") [.ref r]) (EP X pins σ Q) X.xe s := by
  obtain ⟨hd, hz, es, ep, raw, hl, ent⟩ := en
  refine list_view (es := es) (ep := ep) (I.ok.hd hc) hv raw (by omega) fun h' tk acc c as hk hS hla hG hacc => ?_
  have nd : as.Nodup := List.Pairwise.imp (fun {a b} (h : a < b) => Nat.ne_of_lt h) hG.rise
  have newS : H s.heap.objs.size = none := I.hok.fresh (Nat.le_refl _)
  have new : ∀ t ∈ as, H t = none := fun t ht => I.hok.fresh (Nat.le_of_lt (hG.above t ht))
  have refs : ∀ bs : List Addr, Vals (bs.map V.ref) (bs.map Value.ref) := fun bs => by
    induction bs with
    | nil => exact .nil
    | cons b bs ih => exact .cons rfl ih
  have I1 : Inv X pins σ (upd H s.heap.objs.size (.lst (as.map V.ref))) { s with heap := h', toks := tk } := I.laid (t' := tk) hk (Nat.le_refl _) ⟨by rw [List.length_map]; omega, acc.toList, c, by rw [hacc]; exact refs as, by rw [Array.toArray_toList]; exact hS⟩
  obtain ⟨H2, I2, g2, tups⟩ := L2.DX.takeT (P := fun a vs => ∃ (j : Nat) (q : V × V), as[j]? = some a ∧ kv[j]? = some q ∧ vs = [q.1, q.2]) I as _ I1 nd fun a ha => by
    obtain ⟨j, hj⟩ := List.getElem?_of_mem ha
    obtain ⟨e, he, hg⟩ := hG.pairs j a hj
    obtain ⟨q, g1, g2, g3⟩ := ent j e he
    have ne : a ≠ s.heap.objs.size := Nat.ne_of_gt (hG.above a ha)
    refine ⟨Nat.le_of_lt (hG.above a ha), by rw [upd_ne ne]; exact new a ha, [q.1, q.2], ⟨j, q, hj, g1, rfl⟩, fun H2 => ⟨by show 2 ≤ sizeLine; decide, [e.key, e.val], .cons g2 (.cons g3 .nil), ⟨_, hg, rfl, _, rfl⟩⟩⟩
  refine ⟨.ref _, H2, I2, rfl, hQ H2 _ as (fun b o e => g2 b o (by rw [upd_ne (ne_of_none e newS)]; exact e)) newS new (g2 _ _ upd_same) (by omega) fun j t hj => ?_⟩
  obtain ⟨vs, ⟨j', q, hj', hq, rfl⟩, ht⟩ := tups t (List.mem_of_getElem? hj)
  have : j' = j := ad_ix nd hj' hj
  subst this
  exact ⟨q, hq, ht⟩
end
/-- by trees -/
def hItems : T → Sto → Z T := fun t s => match asDK s t with
  | some (ks, xs) => .ok (.lst (List.zipWith (fun k x => .tup [kT k, x]) ks xs)) s
  | none => match asDT s t with
    | some (ks, xs) => .ok (.lst (List.zipWith (fun k x => .tup [.tup (k.map kT), x]) ks xs)) s
    | none => .bad
section
variable {X : Cx} {E : RE} {W : XK} {e : Expr} {fe : Fx} {p apos cpos pos : Pos}
theorem rs_of {m : Ma} {H : Hp} : ∀ {xs : List T} {vs : List V}, xs.length = vs.length → (∀ (j : Nat) (t : T) (v : V), xs[j]? = some t → vs[j]? = some v → R E m H t v) → Rs E m H xs vs
  | [], [], _, _ => rfl
  | [], _ :: _, h, _ => by simp at h
  | _ :: _, [], h, _ => by simp at h
  | x :: xs, v :: vs, h, f => ⟨v, vs, rfl, f 0 x v rfl rfl, rs_of (by simpa using h) fun j t w h1 h2 => f (j + 1) t w (by simpa using h1) (by simpa using h2)⟩
theorem x_items (hc : X.calm = true) (he : PE X e (tF E W fe)) (hm : X.mg "list" = none) (hg : Gl X "list" := by rfl) (hv : bootBuiltins "list" = some (.type "list") := by decide +kernel) (hbase : attributeBase e "items" X.env (eval e X.env) = eval e X.env := by rfl) (hline : (apos.endLine == cpos.line) = true := by rfl)
    (hs : starEach [.Call (.Attribute e "items" apos) [] [] cpos] X.env = (false, eval (.Call (.Attribute e "items" apos) [] [] cpos) X.env) :: starEach [] X.env := by rfl) :
    PE X (.Call (.Name "list" p) [.Call (.Attribute e "items" apos) [] [] cpos] [] pos) (tF E W (v1 hItems fe)) := by
  refine ⟨fun pins s σ H Q I ⟨ρ, st, m, j, hp⟩ => ?_⟩
  refine wpAny_Call_Name_kw (ld_blt I hg hm hv ?_)
  refine PyProof.Rows.callWith_type1 ?_ hs rfl
  rw [hs]
  show wpAny _ _ (spliced ((false, eval (.Call (.Attribute e "items" apos) [] [] cpos) X.env) :: backTo pos (starEach [] X.env))) _ _ s
  refine Calls.spliced_cons ?_
  refine wpAny_Call_method (T := "dict") (id := "dict.items") hbase rfl hline F.plainAttrs_dict F.slot_dict_items F.type_dict_items (thn (he.run pins s σ H _ I ⟨ρ, st, m, j, PZ.imp (fun v H1 z => z) (PZ.then (rel := R E) hp)⟩) fun u s1 ⟨x, H1, I1, rx, t, t1, m1, _, e1, k1, js1, r1, q1⟩ => ?_)
  -- the dict, what stands in it, and the answer's reading
  have fin : ∀ (d : Addr) (kv : List (V × V)) (ts0 : List T), x = .ref d → Ent H1 s1.heap d kv → PZ E W (R E) m1 H1 Q (.ok (.lst ts0) t1) → ts0.length = kv.length →
      (∀ (H' : Hp) (j : Nat) (t : T) (q : V × V) (a : Addr), Grow H1 H' → H1 a = none → ts0[j]? = some t → kv[j]? = some q → H' a = some (.tup [q.1, q.2]) → R E m1 H' t (.ref a)) →
      s1.TypeIs u "dict" ∧ (∀ (a : Addr), u = Value.ref a → ∃ ob, s1.heap.get? a = some ob ∧ ob.dict = none) ∧ wpAny (model X.prog X.w) X.A (callWith cpos (.builtin "dict.items") [u] (backTo cpos (starEach [] X.env)) []) (fun v s' => wpAny (model X.prog X.w) X.A (spliced (backTo pos (starEach [] X.env))) (fun vs s'' => wpAny (model X.prog X.w) X.A (call (.type "list") ([] ++ (v :: vs))) (EP X pins σ Q) X.xe s'') X.xe s') X.xe s1 := by
    intro d kv ts0 ex en hq hl hr
    subst ex
    obtain rfl : u = Value.ref d := rx
    obtain ⟨hsm, hz, es, ep, ⟨o, ho, hx, hdat⟩, rest⟩ := id en
    have raw : DT.Raw s1.heap d es ep := ⟨o, ho, hx, hdat⟩
    refine ⟨raw.typeIs, fun a ea => by cases ea; exact ⟨o, ho, hx.2.1⟩, ?_⟩
    show wpAny _ _ (callWith cpos (.builtin "dict.items") [.ref d] [] []) _ X.xe s1
    refine method_meetsIn F.slot_dict_items F.entry_dict_items rfl (PySem.evalArgs_none ⟨rfl, raw.typeIs, F.args_dict_items_1 _, _, DT.meetsItems hsm, raw, ?_⟩)
    refine Calls.spliced_nil ?_
    have I2 : Inv X pins σ H1 { s1 with heap := s1.heap.push { cls := .type "dict_items", data := .fields #[.ref d] } } := I1.kept (t' := s1.toks) fun b ob q => Heap.get?_push_of_some _ q
    refine items_run hc I2 ⟨_, Heap.get?_push_size _ rfl, rfl, rfl⟩ ⟨hsm, hz, es, ep, raw.push _, rest⟩ fun H' p ts g np nt hp' hlt prs => ?_
    have kk : Keep m1 H1 H' := g.keep
    refine hq (.ref p) H' m1 .refl kk (js1.grow g) ⟨p, _, rfl, js1.fresh np, hp', rs_of (by rw [List.length_map, hl, hlt]) fun j t v h1 h2 => ?_⟩
    rw [List.getElem?_map] at h2
    cases q : ts[j]? with
    | none => rw [q] at h2; cases h2
    | some a =>
      rw [q] at h2
      cases h2
      obtain ⟨qq, g1, g2⟩ := prs j a q
      exact hr H' j t qq a g (nt a (List.mem_of_getElem? q)) h1 g1 g2
  unfold hItems at q1
  cases hk : asDK t1 t with
  | some y =>
    obtain ⟨ks, xs⟩ := y
    rw [hk] at q1
    obtain ⟨d, vs, ex, rd, hl, rs⟩ := asDK_ok hk js1 r1
    refine fin d _ _ ex (ent_K I1.hok rd) q1 ?_ ?_
    · rw [List.length_zipWith, List.length_map, List.length_zip, ← rs.length, hl, ← rs.length]
    · intro H' j t qq a g na h1 h2 ha
      rw [List.getElem?_zipWith] at h1
      rw [List.getElem?_map] at h2
      cases c1 : ks[j]? with
      | none => rw [c1] at h1; cases h1
      | some k =>
        cases c2 : xs[j]? with
        | none => rw [c1, c2] at h1; cases h1
        | some x' =>
          rw [c1, c2] at h1
          cases h1
          obtain ⟨v, gv, rv⟩ := at_ok rs c2
          have zz : (ks.zip vs)[j]? = some (k, v) := List.getElem?_zip_eq_some.mpr ⟨c1, gv⟩
          rw [zz] at h2
          cases h2
          exact ⟨a, _, rfl, js1.fresh na, ha, _, _, rfl, kT_R, _, _, rfl, rv.mono .refl g.keep, rfl⟩
  | none =>
    rw [hk] at q1
    dsimp only at q1
    cases ht : asDT t1 t with
    | none => rw [ht] at q1; exact q1.elim
    | some y =>
      obtain ⟨ks, xs⟩ := y
      rw [ht] at q1
      obtain ⟨d, vs, ex, rd, hl, rs⟩ := asDT_ok ht js1 r1
      obtain ⟨bs, lb, hb, en⟩ := ent_T I1.hok rd
      refine fin d _ _ ex en q1 ?_ ?_
      · rw [List.length_zipWith, List.length_zipWith, lb, Nat.min_self, List.length_zip, ← rs.length, hl, ← rs.length]
      · intro H' j t qq a g na h1 h2 ha
        rw [List.getElem?_zipWith] at h1 h2
        cases c1 : ks[j]? with
        | none => rw [c1] at h1; cases h1
        | some k =>
          cases c2 : xs[j]? with
          | none => rw [c1, c2] at h1; cases h1
          | some x' =>
            rw [c1, c2] at h1
            cases h1
            obtain ⟨v, gv, rv⟩ := at_ok rs c2
            have zz : (ks.zip vs)[j]? = some (k, v) := List.getElem?_zip_eq_some.mpr ⟨c1, gv⟩
            rw [zz] at h2
            cases c3 : bs[j]? with
            | none => rw [c3] at h2; cases h2
            | some b =>
              rw [c3] at h2
              cases h2
              have hb' := hb j b _ c3 zz
              exact ⟨a, _, rfl, js1.fresh na, ha, _, _, rfl, ⟨b, _, rfl, tup_fr (l := E.ex) js1 hb', g _ _ hb', kTs_R⟩, _, _, rfl, rv.mono .refl g.keep, rfl⟩
end
end Sh

set_option Elab.async false
set_option linter.all false
set_option maxRecDepth 100000
set_option maxHeartbeats 4000000
namespace Sh
open PySem PySem.Spec PyProof.Rows L2
section
variable {X : Cx} {E : RE} {W : XK}
/-- list(d), by what stands in d -/
theorem keys_run {H : Hp} {pins : List (Addr × Obj)} {σ : L2.St} {s : Shared} {d : Addr} {kv : List (V × V)} {Q : VK} (hc : X.calm = true) (I : Inv X pins σ H s) (en : Ent H s.heap d kv) (hQ : ∀ p, H p = none → Q (.ref p) (upd H p (.lst (kv.map (·.1))))) :
    wpAny (model X.prog X.w) X.A (call (.type "list") [.ref d]) (EP X pins σ Q) X.xe s := by
  obtain ⟨hd, hz, es, ep, ⟨o, ho, hx, hdat⟩, hl, ent⟩ := en
  refine PySem.W.kdl_call (kdl_raw hd hx hdat) (I.ok.hd hc) ho (by omega) fun h' tk acc c kp e it => ?_
  have sz : acc.toList.length = kv.length := by rw [Array.length_toList, it.1, hl]
  have vs : Vals (kv.map (·.1)) acc.toList := vals_of_at (by rw [List.length_map, sz]) fun j x w h1 h2 => by
    obtain ⟨en, h3, rfl⟩ := it.2 j w (by rw [← Array.getElem?_toList]; exact h2)
    obtain ⟨p, g1, g2, _⟩ := ent j en h3
    rw [List.getElem?_map, g1] at h1
    cases h1
    exact g2
  exact ⟨.ref s.heap.objs.size, _, I.laid (t' := tk) (o := .lst (kv.map (·.1))) kp (Nat.le_refl _) ⟨by rw [List.length_map]; exact hz, acc.toList, c, vs, by rw [Array.toArray_toList]; exact e⟩, rfl, hQ _ (I.hok.fresh (Nat.le_refl _))⟩
def hListD : List T → Sto → Z T := fun ts s => match ts with
  | [x] => match dictKeys s x with | some ks => .ok (.lst ks) s | none => .bad
  | _ => .bad
theorem c_listD (hc : X.calm = true) : CallR X (.type "list") (rFc E W hListD) := by
  intro pins s σ H xs us Q I r ⟨as, st, m, js, ra, q⟩
  unfold hListD at q
  split at q
  case h_2 => exact q.elim
  rename_i x
  obtain ⟨v, rfl, rv⟩ := vals_one rfl ra
  obtain ⟨u, rfl, ru⟩ := vals1 r
  unfold dictKeys at q
  cases hk : asDK st x with
  | some y =>
    obtain ⟨ks, ys⟩ := y
    rw [hk] at q
    obtain ⟨d, vs, rfl, rd, hl, rs⟩ := asDK_ok hk js rv
    cases ru
    refine keys_run hc I (ent_K I.hok rd) fun p np => PZ.new q js np ⟨p, _, rfl, js.fresh np, upd_same, rs_of ?_ fun j t v h1 h2 => ?_⟩
    · rw [List.length_map, List.length_map, List.length_map, List.length_zip, ← hl, Nat.min_self]
    · rw [List.getElem?_map] at h1
      rw [List.getElem?_map, List.getElem?_map] at h2
      cases c1 : ks[j]? with
      | none => rw [c1] at h1; cases h1
      | some k =>
        rw [c1] at h1
        cases h1
        cases c2 : (ks.zip vs)[j]? with
        | none => rw [c2] at h2; cases h2
        | some p2 =>
          rw [c2] at h2
          cases h2
          have z := (List.getElem?_zip_eq_some.mp c2).1
          rw [c1] at z
          cases z
          exact kT_R
  | none =>
    rw [hk] at q
    dsimp only at q
    cases ht : asDT st x with
    | none => rw [ht] at q; exact q.elim
    | some y =>
      obtain ⟨ks, ys⟩ := y
      rw [ht] at q
      obtain ⟨d, vs, rfl, rd, hl, rs⟩ := asDT_ok ht js rv
      cases ru
      obtain ⟨bs, lb, hb, en⟩ := ent_T I.hok rd
      refine keys_run hc I en fun p np => PZ.new q js np ⟨p, _, rfl, js.fresh np, upd_same, rs_of ?_ fun j t v h1 h2 => ?_⟩
      · rw [List.length_map, List.length_map, List.length_zipWith, lb, Nat.min_self, List.length_zip, ← hl, Nat.min_self]
      · rw [List.getElem?_map] at h1
        rw [List.getElem?_map, List.getElem?_zipWith] at h2
        cases c1 : ks[j]? with
        | none => rw [c1] at h1; cases h1
        | some k =>
          rw [c1] at h1
          cases h1
          cases c2 : bs[j]? with
          | none => rw [c2] at h2; cases h2
          | some b =>
            cases c3 : (ks.zip vs)[j]? with
            | none => rw [c2, c3] at h2; cases h2
            | some p2 =>
              rw [c2, c3] at h2
              cases h2
              have z := (List.getElem?_zip_eq_some.mp c3).1
              rw [c1] at z
              cases z
              have hb' := hb j b _ c2 c3
              have fr : Fr E m b := tup_fr (l := E.ex) js hb'
              exact ⟨b, _, rfl, fr, by rw [upd_ne (ne_of_none hb' np)]; exact hb', kTs_R⟩
end
/-! ### an instance called -/
structure OwnC (X : Cx) (E : RE) (c0 : Nat) (k n : Nat) (ds : List T) (FF : List T → Sto → Z T) : Prop where
  ex : ∃ (g : Addr) (fd : FuncData) (ps : List Str) (dvs : List V) (dus : List Value), StX.CallO X.K (E.ca c0) g ∧ OkF X E k g fd ps n FF ∧ Binds X.K fd ps dus ∧ Vals dvs dus ∧ ∀ l m H, Rs (E.x l) m H ds dvs
  hF : ∀ as st, as.length ≠ n → FF as st = .bad
def vCallD (fn : Nat → List Str) (c0 : Nat) (FF : List T → Sto → Z T) (ds : List T) (f : Fx) (fs : Fa) : Fx := fun ρ st => (f ρ st).then fun t s => if isRef t = true then (fs ρ s).then fun as s => match insOf fn c0 s t with
  | some _ => FF (t :: as ++ ds) s
  | none => .bad
  else .bad
section
variable {X : Cx} {E : RE} {W : XK} {c0 k n : Nat} {ds : List T} {FF : List T → Sto → Z T} {e fe : Expr} {es : List Expr} {ff : Fx} {fs : Fa} {pos : Pos}
theorem x_callO (O : OwnC X E c0 k n ds FF) (hr : Room k X.A) (hx : Passes (L2.CX X.prog X.w) X W) (hf : PE X fe (tF E W ff)) (ha : PA X (e :: es) (tFs E W fs))
    (ht : eval (.Call fe (e :: es) [] pos) X.env = (do callWith pos (← eval fe X.env) [] (backTo pos (starEach (e :: es) X.env)) (backToKw pos (keywordEach [] X.env))) := by rfl)
    (he : starEach (e :: es) X.env = (false, eval e X.env) :: starEach es X.env := by rfl) (hpl : (backTo pos (starEach es X.env)).any (·.1) = false := by rfl) : PE X (.Call fe (e :: es) [] pos) (tF E W (vCallD E.fn c0 FF ds ff fs)) := by
  obtain ⟨g, fd, ps, dvs, dus, c, F, hb, hd, hdR⟩ := O.ex
  refine (StX.pe_callO hf c (F.raw hb hd) hr hx ha ht he hpl).weak fun σ H Q ⟨ρ, st, m, j, hp⟩ => ?_
  refine ⟨ρ, st, m, j, PZ.imp (fun v H1 z => ?_) (PZ.then (rel := R E) hp)⟩
  obtain ⟨t, s1, m1, h1, e1, k1, js1, r1, q1⟩ := z
  by_cases hi : isRef t = true
  case neg => rw [if_neg hi] at q1; exact q1.elim
  rw [if_pos hi] at q1
  obtain ⟨a, rfl⟩ := isRef_ok hi r1
  refine ⟨a, rfl, ρ, s1, m1, j.step e1 k1 js1, PZ.imp (fun w H2 z => ?_) (PZ.then (rel := Rs E) q1)⟩
  obtain ⟨as, s2, m2, h2, e2, k2, js2, r2, q2⟩ := z
  cases hi : insOf E.fn c0 s2 t with
  | none => rw [hi] at q2; exact q2.elim
  | some p =>
    rw [hi] at q2
    dsimp only at q2
    obtain ⟨a', dx, vs, ea, hs, _, _⟩ := insOf_ok (ns := p.1) (xs := p.2) hi js2 (r1.mono e2 k2)
    cases ea
    have rr : Rs E m2 H2 (t :: as ++ ds) (V.ref a :: w ++ dvs) := Rs.append ⟨_, _, rfl, r1.mono e2 k2, r2⟩ (hdR E.ex m2 H2)
    exact ⟨.inr ⟨dx, _, hs⟩, sp_of js2 rr (len_of O.hF rr q2) q2⟩
end
end Sh

set_option Elab.async false
set_option linter.all false
set_option maxRecDepth 100000
set_option maxHeartbeats 4000000
namespace Sh
open PySem PySem.Spec PyProof.Rows L2
section
variable {X : Cx} {E : RE} {W : XK} {m m' : Ma} {H H' : Hp} {st s s' : Sto} {pos p : Pos} {fs : Fa}
/-! ### a, b = x, y -/
/-- the slots set from what was evaluated -/
def sPar (is : List Nat) (fa : Fa) : Fs := fun ρ st => (fa ρ st).then fun ts s => if ts.length = is.length then .ok (.nx ((is.zip ts).foldl (fun ρ q => ρ.set q.1 (some q.2)) ρ)) s else .bad
theorem s_par2 {i j : Nat} {x y : Str} {a b : Expr} {px py pt : Pos} {kt k2 pt2} (hc : X.calm = true) (hN : X.N.Nodup) (ha : PA X [a, b] (tFs E W fs)) (hi : X.N[i]? = some x := by rfl) (hj : X.N[j]? = some y := by rfl) (hij : i ≠ j := by decide)
    (hx : X.env.scope.names.lookup x = some .local := by rfl) (hy : X.env.scope.names.lookup y = some .local := by rfl)
    (hw : swappedStores [.Tuple [.Name x px, .Name y py] kt pt] (.Tuple [a, b] k2 pt2) X.env = pure (some [x, y]) := by rfl) (hs : swapsWithSole [.Tuple [.Name x px, .Name y py] kt pt] (.Tuple [a, b] k2 pt2) pos.line X.env = pure false := by rfl) :
    PS X (.Assign [.Tuple [.Name x px, .Name y py] kt pt] (.Tuple [a, b] k2 pt2) pos) (tS E W (sPar [i, j] fs)) := (ps_par hc hN hi hj hij hx hy ha hw hs).weak fun D σ H ⟨ρ, st, m, jj, hp⟩ => by
  refine ⟨ρ, st, m, jj, PZ.imp (fun vs H1 z => ?_) (PZ.then (rel := Rs E) hp)⟩
  obtain ⟨ts, s1, m1, _, e1, k1, js1, r1, q1⟩ := z
  by_cases hl : ts.length = [i, j].length
  case neg => rw [if_neg hl] at q1; exact q1.elim
  rw [if_pos hl] at q1
  match ts, hl, r1, q1 with
  | [t, u], _, ⟨v, _, ev, r2, w, _, ew, r3, r4⟩, q1 =>
    subst ev; subst ew
    cases (show _ = [] from r4)
    exact ⟨v, w, rfl, PZ.ok (v := Fv.nx _) q1 js1 (((jj.lc.mono e1 k1).set i r2).set j r3)⟩
theorem s_par3 {i j l : Nat} {x y z : Str} {a b c : Expr} {px py pz pt : Pos} {kt k2 pt2} (hc : X.calm = true) (hN : X.N.Nodup) (ha : PA X [a, b, c] (tFs E W fs)) (hi : X.N[i]? = some x := by rfl) (hj : X.N[j]? = some y := by rfl) (hl : X.N[l]? = some z := by rfl) (hij : i ≠ j := by decide) (hil : i ≠ l := by decide) (hjl : j ≠ l := by decide)
    (hx : X.env.scope.names.lookup x = some .local := by rfl) (hy : X.env.scope.names.lookup y = some .local := by rfl) (hz : X.env.scope.names.lookup z = some .local := by rfl)
    (hw : swappedStores [.Tuple [.Name x px, .Name y py, .Name z pz] kt pt] (.Tuple [a, b, c] k2 pt2) X.env = pure (some [x, y, z]) := by rfl) (hs : swapsWithSole [.Tuple [.Name x px, .Name y py, .Name z pz] kt pt] (.Tuple [a, b, c] k2 pt2) pos.line X.env = pure false := by rfl) :
    PS X (.Assign [.Tuple [.Name x px, .Name y py, .Name z pz] kt pt] (.Tuple [a, b, c] k2 pt2) pos) (tS E W (sPar [i, j, l] fs)) := (ps_par3 hc hN hi hj hl hij hil hjl hx hy hz ha hw hs).weak fun D σ H ⟨ρ, st, m, jj, hp⟩ => by
  refine ⟨ρ, st, m, jj, PZ.imp (fun vs H1 z => ?_) (PZ.then (rel := Rs E) hp)⟩
  obtain ⟨ts, s1, m1, _, e1, k1, js1, r1, q1⟩ := z
  by_cases hl : ts.length = [i, j, l].length
  case neg => rw [if_neg hl] at q1; exact q1.elim
  rw [if_pos hl] at q1
  match ts, hl, r1, q1 with
  | [t, u, v3], _, ⟨v, _, ev, r2, w, _, ew, r3, w3, _, ew3, r4, r5⟩, q1 =>
    subst ev; subst ew; subst ew3
    cases (show _ = [] from r5)
    exact ⟨v, w, w3, rfl, PZ.ok (v := Fv.nx _) q1 js1 ((((jj.lc.mono e1 k1).set i r2).set j r3).set l r4)⟩

/-! ### enumerate, zip -/
theorem Wk.pair {J : It} {G : Hp → Prop} {xs ys : Nat → Option V} {ts : List T} (hw : Walk J ts.length G (YPair xs ys)) (hG : ∀ m' H', Ext m m' H → Keep m H H' → G H')
    (hr : ∀ (i : Nat) (t : T), ts[i]? = some t → ∃ a b, t = .tup [a, b] ∧ (∀ v, xs i = some v → R E m H a v) ∧ ∀ v, ys i = some v → R E m H b v) : Wk E m H J ts :=
  ⟨G, YPair xs ys, hw, hG, fun l i t x m' s' H' H'' hx hi e k js ⟨Tt, u, w, ex, nT, eH, h1, h2⟩ => by
    subst ex eH
    obtain ⟨a, b, rfl, ra, rb⟩ := hr i t hi
    have kk : Keep m' H' (upd H' Tt (.tup [u, w])) := keep_new nT
    refine ⟨kk, js.new nT, Tt, _, rfl, js.fresh nT, upd_same, u, _, rfl, ((ra u h1).monoX hx e k).mono .refl kk, w, _, rfl, ((rb w h2).monoX hx e k).mono .refl kk, rfl⟩⟩
/-- a frozen list -/
def asF : T → Option (List T)
  | .lst xs => some xs
  | .scr xs => some xs
  | _ => none
theorem asF_ok {t : T} {v : V} {xs : List T} (h : asF t = some xs) (r : R E m H t v) : ∃ a vs, v = .ref a ∧ SqL E.K H a vs ∧ Rs E m H xs vs ∧ ∀ m' H', Ext m m' H → Keep m H H' → SqL E.K H' a vs := by
  cases t with
  | lst ys =>
    cases h
    obtain ⟨a, vs, rfl, na, hs, hr⟩ := r
    exact ⟨a, vs, rfl, .of hs, hr, fun m' H' _ k => .of (k a _ (nf na.1) hs)⟩
  | scr ys =>
    cases h
    obtain ⟨a, vs, rfl, hs, hr⟩ := r
    exact ⟨a, vs, rfl, hs.elim (fun z => .inl z.2) .inr, hr, fun m' H' _ k => hs.elim (fun z => .inl (k.rd z.1.1 z.2)) .inr⟩
  | _ => cases h
def enumT : Nat → List T → List T
  | _, [] => []
  | i, x :: xs => .tup [.int i, x] :: enumT (i + 1) xs
theorem enumT_len : ∀ (xs : List T) (i : Nat), (enumT i xs).length = xs.length
  | [], _ => rfl
  | x :: xs, i => by unfold enumT; rw [List.length_cons, List.length_cons, enumT_len xs]
theorem enumT_at : ∀ (xs : List T) (i j : Nat) (t : T), (enumT i xs)[j]? = some t → ∃ x, xs[j]? = some x ∧ t = .tup [.int ((i + j : Nat) : Int), x]
  | [], _, _, _, h => by simp [enumT] at h
  | x :: xs, i, 0, t, h => by simp [enumT] at h; exact ⟨x, rfl, h.symm⟩
  | x :: xs, i, j + 1, t, h => by
    simp [enumT] at h
    obtain ⟨y, h1, h2⟩ := enumT_at xs (i + 1) j t h
    exact ⟨y, by simpa using h1, by rw [h2]; congr 3; omega⟩
def iEnumF (fs : Fa) : Fa := fun ρ st => (fs ρ st).then fun ts s => match ts with
  | [x] => match asF x with | some xs => .ok (enumT 0 xs) s | none => .bad
  | _ => .bad
theorem i_enum {e : Expr} {tpos : Pos} {elts : List Expr} {kk : Nat} (hK : X.K = E.K) (hm : X.mg "enumerate" = none) (ha : PA X [e] (tFs E W fs)) (hg : Gl X "enumerate" := by rfl) (hs : starEach [e] X.env = [(false, eval e X.env)] := by rfl) : PI X (.Tuple elts kk tpos) (.Call (.Name "enumerate" p) [e] [] pos) (tI E W (iEnumF fs)) :=
  (pi_enum hg hm ha hs).weak fun σ H Q ⟨ρ, st, m, j, hp⟩ => by
    refine ⟨ρ, st, m, j, PZ.imp (fun vs H1 z => ?_) (PZ.then (rel := Rs E) hp)⟩
    obtain ⟨ts, s1, m1, _, e1, k1, js1, r1, q1⟩ := z
    match ts, r1, q1 with
    | [x], r1, q1 =>
      obtain ⟨v, rfl, rv⟩ := vals_one rfl r1
      dsimp only at q1
      cases hx : asF x with
      | none => rw [hx] at q1; exact q1.elim
      | some xs =>
        rw [hx] at q1
        obtain ⟨a, vs, rfl, sq, rs, keep⟩ := asF_ok hx rv
        refine ⟨a, vs, rfl, hK ▸ sq, PZ.ok q1 js1 (Wk.pair (by rw [enumT_len, rs.length]; exact walk_enum) (fun m' H' e k => hK ▸ keep m' H' e k) fun i t hi => ?_)⟩
        obtain ⟨y, h1, h2⟩ := enumT_at xs 0 i t hi
        obtain ⟨w, g1, g2⟩ := at_ok rs h1
        refine ⟨_, y, h2, fun v hv => ?_, fun v hv => ?_⟩
        · cases hv; rw [Nat.zero_add]; exact rfl
        · rw [g1] at hv; cases hv; exact g2
    | [], _, q1 => exact q1.elim
    | _ :: _ :: _, _, q1 => exact q1.elim
def zipT : List T → List T → List T := List.zipWith fun x y => .tup [x, y]
def iZipF (fs : Fa) : Fa := fun ρ st => (fs ρ st).then fun ts s => match ts with
  | [x, y] => match asF x, asF y with | some xs, some ys => .ok (zipT xs ys) s | _, _ => .bad
  | _ => .bad
theorem i_zip {e e2 : Expr} {tpos : Pos} {elts : List Expr} {kk : Nat} (hK : X.K = E.K) (hm : X.mg "zip" = none) (ha : PA X [e, e2] (tFs E W fs)) (hg : Gl X "zip" := by rfl) (hs : starEach [e, e2] X.env = (false, eval e X.env) :: starEach [e2] X.env := by rfl) (hpl : (backTo pos (starEach [e2] X.env)).any (·.1) = false := by rfl) :
    PI X (.Tuple elts kk tpos) (.Call (.Name "zip" p) [e, e2] [] pos) (tI E W (iZipF fs)) := (pi_zip hg hm ha hs hpl).weak fun σ H Q ⟨ρ, st, m, j, hp⟩ => by
  refine ⟨ρ, st, m, j, PZ.imp (fun vs H1 z => ?_) (PZ.then (rel := Rs E) hp)⟩
  obtain ⟨ts, s1, m1, _, e1, k1, js1, r1, q1⟩ := z
  match ts, r1, q1 with
  | [x, y], ⟨v, _, ev, rx, w, _, ew, ry, rn⟩, q1 =>
    subst ev; subst ew
    cases (show _ = [] from rn)
    dsimp only at q1
    cases hx : asF x with
    | none => rw [hx] at q1; exact q1.elim
    | some xs =>
      cases hy : asF y with
      | none => rw [hx, hy] at q1; exact q1.elim
      | some ys =>
        rw [hx, hy] at q1
        obtain ⟨a, vs, rfl, sq, rs, keep⟩ := asF_ok hx rx
        obtain ⟨b, ws, rfl, sq2, rs2, keep2⟩ := asF_ok hy ry
        refine ⟨a, b, vs, ws, rfl, hK ▸ sq, hK ▸ sq2, PZ.ok q1 js1 (Wk.pair (walk_zip (by unfold zipT; rw [List.length_zipWith, rs.length, rs2.length])) (fun m' H' e k => ⟨hK ▸ keep m' H' e k, hK ▸ keep2 m' H' e k⟩) fun i t hi => ?_)⟩
        unfold zipT at hi
        rw [List.getElem?_zipWith] at hi
        cases c1 : xs[i]? with
        | none => rw [c1] at hi; cases hi
        | some u =>
          cases c2 : ys[i]? with
          | none => rw [c1, c2] at hi; cases hi
          | some u2 =>
            rw [c1, c2] at hi
            cases hi
            obtain ⟨v1, g1, g2⟩ := at_ok rs c1
            obtain ⟨v2, g3, g4⟩ := at_ok rs2 c2
            exact ⟨u, u2, rfl, fun v hv => (by rw [g1] at hv; cases hv; exact g2), fun v hv => (by rw [g3] at hv; cases hv; exact g4)⟩
  | [], _, q1 => exact q1.elim
  | [_], _, q1 => exact q1.elim
  | _ :: _ :: _ :: _, _, q1 => exact q1.elim

/-! ### a try whose body raises nothing -/
theorem s_tryN {x : Str} {c : Value} {body suite : List Stmt} {b₀ : Stmt} {np pos' : Pos} {fb : Fs} (hs : X.stack = X.env :: X.outer) (hf : X.env.frame = some X.env.locals) (hc : Names X x c)
    (hb : ∀ (pn : List (Addr × Obj)) (xe : Value → Shared → Prop), PassesOwn (model X.prog X.w) X.A X.env xe → PSs (X.tr pn xe) body (tS E W0 fb)) :
    PS X (.Try body [.ExceptHandler (some (.Name x np)) none (b₀ :: suite) pos'] [] [] pos) (tS E W fun ρ st => noX (fb ρ st)) :=
  (ps_try_only (X := X) (tb := fun _ => tS E W0 fb) (ts := fun _ _ _ _ _ _ => False) (Wout := fun _ _ _ _ => False) hs hf hc (fun u s' ⟨_, _, _, _, _, _, _, _, _, _, _, _, _, _, _, _, z⟩ => z.elim) (fun W' pn xe _ hp => hb pn xe hp)
    (fun a oe cls d pn _ _ => ⟨fun pins s σ H D I z => z.elim⟩)).weak fun D σ H ⟨ρ, st, m, j, hp⟩ => ⟨ρ, st, m, j, by
      dsimp only at hp
      cases hz : fb ρ st with
      | ok a b => rw [hz] at hp; exact hp
      | exc c x s => rw [hz] at hp; exact hp.elim
      | bad => rw [hz] at hp; exact hp.elim⟩
end
end Sh

set_option Elab.async false
set_option linter.all false
set_option maxRecDepth 100000
set_option maxHeartbeats 4000000
namespace Sh
open PySem PySem.Spec PyProof.Rows L2
section
variable {P : Program} {w : World} {K : PySem.W.Frag} {mg : Str → Option Value} {base : Heap} {ca : Nat → Addr} {fn xn : Nat → List Str}
/-- def f(a, .., *v, k, ..) runs, however it binds -/
theorem runS {x qual : Str} {stt : Stmt} {f : Addr} {N ps ks : List Str} {pv : Str} {k : Nat} {b : Fs} {oc : Value} {od an : Option Addr} {kV doc pm cdv ct : Value} {osl : Array (Option Value)} (lk : K.lookup f = some ⟨oc, od, .func (PySem.W.fnOf x qual (defArgs stt) (defBody stt) (defScope stt) Value.none kV doc pm an cdv ct), osl⟩) (hcd : PySem.W.codeIn K cdv qual = true)
    (S : FnScope N (ps ++ ks ++ [pv]) (defScope stt)) (hps : (ps ++ ks ++ [pv]).length ≤ N.length) {A : Around} {outer : List Env} {s : Shared} {H : Hp} {us ws : List Value} {vs : List V} {Q : VK} {W : XK} {args : Args}
    (hbw : ∀ (A' : Around) (Ex : Value → Shared → Prop) (Q' : List (Str × Value) → Shared → Prop), wpAny (model P w) A' (newTuple (us.drop ps.length) >>= fun t => pure ((ps ++ ks).zip (us.take ps.length ++ ws) ++ [(pv, t)])) Q' Ex s → wpAny (model P w) A' (bindArgs (PySem.W.fnOf x qual (defArgs stt) (defBody stt) (defScope stt) Value.none kV doc pm an cdv ct) args) Q' Ex s)
    (hbody : ∀ (l : List Addr) (cdv : Value) (A : Around) (outer : List Env) (s : Shared) (H : Hp) (W : XK), Room k (A.deeper (envOfC qual (defScope stt) s.heap.objs.size f cdv)) →
      PSs (cxOf (L2.CX P w) P w K mg base N qual (defScope stt) f cdv A outer s H W) (defBody stt) (tS ⟨K, ca, fn, xn, l⟩ W b))
    (hr : Room (k + 1) A) (e0 : Env0 P w K mg base A outer s H) (r : Vals vs (us ++ ws)) (hlw : ws.length = ks.length) (hsp : spF K ca fn xn vs.length (starF fn ps.length ks.length N.length b) vs H Q W) :
    codeAny (model P w) A (.call (.ref f) args) (CR (L2.CX P w) outer P w H s Q W) s := by
  obtain ⟨l, as, st, m, _, js, rs, hp⟩ := hsp
  unfold starF at hp
  by_cases hc : (decide (ps.length + ks.length ≤ as.length) && decide (as.length ≤ lim)) = true
  case neg => rw [if_neg hc] at hp; exact hp.elim
  rw [if_pos hc] at hp
  rw [Bool.and_eq_true] at hc
  have c1 := of_decide_eq_true hc.1
  have c2 := of_decide_eq_true hc.2
  have lv : vs.length = us.length + ws.length := by rw [r.length, List.length_append]
  have la : as.length = vs.length := rs.length
  have lu : ps.length ≤ us.length := by omega
  have eus : us = us.take ps.length ++ us.drop ps.length := (List.take_append_drop _ _).symm
  have ltk : (us.take ps.length).length = ps.length := by rw [List.length_take]; omega
  -- the parts
  have rp : Vals (vs.take ps.length) (us.take ps.length) := by
    have z := vals_take ps.length r
    rw [List.take_append_of_le_length lu] at z
    exact z
  have rk : Vals (vs.drop us.length) ws := by
    have z := vals_drop us.length r
    rw [List.drop_left' rfl] at z
    exact z
  have rr : Vals ((vs.take us.length).drop ps.length) (us.drop ps.length) := by
    have z := vals_drop ps.length (vals_take us.length r)
    rw [List.take_left' rfl] at z
    exact z
  have ea : as.length - ks.length = us.length := by omega
  have hn : H s.heap.objs.size = Option.none := e0.hok.fresh (Nat.le_refl _)
  have hz : ((vs.take us.length).drop ps.length).length ≤ sizeLine := by
    rw [List.length_drop, List.length_take]
    exact Nat.le_trans (Nat.le_trans (Nat.sub_le _ _) (Nat.min_le_right _ _)) (by rw [← la]; exact lim_line c2)
  have hz2 : (us.drop ps.length).length ≤ sizeLine := by rw [← rr.length]; exact hz
  refine StX.run_bnd lk hcd S hr e0 (G := fun xs H2 => ∃ p, H p = Option.none ∧ xs = vs.take ps.length ++ vs.drop us.length ++ [V.ref p] ∧ H2 = upd H p (.tup ((vs.take us.length).drop ps.length))) (fun A' Ex Q' h => ?_) fun s2 H2 xs ⟨p, hpn, ex, eH⟩ hr' => ?_
  · refine hbw A' Ex _ ?_
    refine wpAny_bind (wpAny_newTuple (wpAny_pure ?_) hz2)
    have new : ObjOk P w (upd H s.heap.objs.size (.tup ((vs.take us.length).drop ps.length))) (s.heap.push ({ cls := .type "tuple", data := .seq (us.drop ps.length).toArray } : Obj)) s.heap.objs.size (.tup ((vs.take us.length).drop ps.length)) :=
      ⟨hz, us.drop ps.length, rr, ⟨_, Heap.get?_push_size _ rfl, rfl, _, rfl⟩⟩
    have un := StX.un_laid (fs := frs outer) (s := s) (o := ({ cls := .type "tuple", data := .seq (us.drop ps.length).toArray } : Obj)) (u := .tup ((vs.take us.length).drop ps.length)) hn
    have z := h _ _ (vs.take ps.length ++ vs.drop us.length ++ [V.ref s.heap.objs.size]) (us.take ps.length ++ ws ++ [Value.ref s.heap.objs.size]) (StX.env0_laid e0 new) un rfl (fun e s' => StX.cxUp outer s H _ _ W e s' un (fun b o q => Heap.get?_push_of_some _ q) rfl)
      ((rp.append rk).append (.cons rfl .nil)) (by rw [List.length_append, List.length_append, List.length_append, List.length_append, rp.length, ltk, rk.length, hlw]; rfl) ⟨_, hn, rfl, rfl⟩
    rw [List.zip_append (by rw [List.length_append, List.length_append, ltk, hlw])] at z
    exact z
  · subst ex eH
    have e2 : Ext m m H := .refl
    have k2 : Keep m H (upd H p (.tup ((vs.take us.length).drop ps.length))) := keep_new hpn
    have js2 := js.new (o := .tup ((vs.take us.length).drop ps.length)) hpn
    have rs2 := rs.mono e2 k2
    have rA : Rs ⟨K, ca, fn, xn, l⟩ m (upd H p (.tup ((vs.take us.length).drop ps.length))) (starA ps.length ks.length as) (vs.take ps.length ++ vs.drop us.length ++ [V.ref p]) := by
      unfold starA
      rw [ea]
      exact ((rs2.take' _).append (rs2.drop' _)).append ⟨_, _, rfl, ⟨p, _, rfl, js.fresh hpn, upd_same, (rs2.take' _).drop' _⟩, rfl⟩
    refine ⟨_, hbody l cdv A outer s2 _ W hr', startL N.length (starA ps.length ks.length as), st, m, (start_lc rA ?_).j js2, body_ok js2.len (hp.up e2 k2)⟩
    have := rA.length
    rw [this, List.length_append, List.length_append, rp.length, ltk, rk.length, hlw]
    rw [List.length_append, List.length_append] at hps
    exact hps

/-- facts of a def whose keyword-only parameter kn has the default dv -/
structure FunK (K : PySem.W.Frag) (x qual : Str) (st : Stmt) (kn : Str) (dv : V) (f : Addr) (fd : FuncData) : Prop where
  ex : ∃ (oc : Value) (od : Option Addr) (D : Addr) (doc pm : Value) (an : Option Addr) (cdv ct u : Value) (osl : Array (Option Value)), fd = PySem.W.fnOf x qual (defArgs st) (defBody st) (defScope st) Value.none (.ref D) doc pm an cdv ct ∧
    K.lookup f = some ⟨oc, od, .func fd, osl⟩ ∧ PySem.W.codeIn K cdv qual = true ∧ PySem.W.nsIn K D kn = some (some u) ∧ RelV dv u
/-- .. called without it -/
theorem okS0 {x qual : Str} {stt : Stmt} {f : Addr} {fd : FuncData} {N ps : List Str} {kn pv : Str} {dv : V} {dt : T} {k : Nat} {b : Fs} (F : FunK K x qual stt kn dv f fd) (hdt : ∀ E m H, R E m H dt dv) (S : FnScope N (ps ++ [kn] ++ [pv]) (defScope stt)) (hps : (ps ++ [kn] ++ [pv]).length ≤ N.length)
    (hb : ∀ (D : Addr) (doc pm : Value) (an : Option Addr) (cdv ct z : Value) (us rest : List Value), us.length = ps.length → ∃ (β γ : Type) (k1 : Option Value → Sem β) (k2 : β → Sem γ) (k3 : γ → Sem (List (Str × Value))) (a : β),
      bindArgs (PySem.W.fnOf x qual (defArgs stt) (defBody stt) (defScope stt) Value.none (.ref D) doc pm an cdv ct) ⟨us ++ rest, []⟩ = ((nsGet D kn >>= k1) >>= k2) >>= k3 ∧ k1 (some z) = pure a ∧ (k2 a >>= k3) = (newTuple rest >>= fun t => pure ((ps ++ [kn]).zip (us ++ [z]) ++ [(pv, t)])))
    (hbody : ∀ (l : List Addr) (cdv : Value) (A : Around) (outer : List Env) (s : Shared) (H : Hp) (W : XK), Room k (A.deeper (envOfC qual (defScope stt) s.heap.objs.size f cdv)) →
      PSs (cxOf (L2.CX P w) P w K mg base N qual (defScope stt) f cdv A outer s H W) (defBody stt) (tS ⟨K, ca, fn, xn, l⟩ W b)) :
    FnS P w K mg base ca fn xn (k + 1) f [] (fun as st => starF fn ps.length 1 N.length b (as ++ [dt]) st) := by
  intro A outer s H us ws vs Q W hr e0 r hlw ⟨l, as, st, m, _, js, rs, hp⟩
  obtain ⟨oc, od, D, doc, pm, an, cdv, ct, u, osl, rfl, lk, hcd, hq, ru⟩ := F.ex
  have ew : ws = [] := List.eq_nil_of_length_eq_zero hlw
  subst ew
  rw [List.append_nil] at r
  have KX : K.In s.heap := e0.mod.kin.keeps fun b o e => (e0.bs b o e).1
  have lps : ps.length ≤ us.length := by
    unfold starF at hp
    dsimp only at hp
    by_cases hc : (decide (ps.length + 1 ≤ (as ++ [dt]).length) && decide ((as ++ [dt]).length ≤ lim)) = true
    case neg => rw [if_neg hc] at hp; exact hp.elim
    rw [Bool.and_eq_true] at hc
    have c1 := of_decide_eq_true hc.1
    rw [List.length_append, List.length_singleton] at c1
    have := rs.length
    have := r.length
    omega
  refine runS (ks := [kn]) (ws := [u]) (us := us) lk hcd S hps (fun A' Ex Q' z => ?_) hbody hr e0 (r.append (.cons ru .nil)) rfl ⟨l, as ++ [dt], st, m, rfl, js, rs.append ⟨dv, [], rfl, hdt _ _ _, rfl⟩, hp⟩
  obtain ⟨β, γ, k1, k2, k3, a, h1, h2, h3⟩ := hb D doc pm an cdv ct u (us.take ps.length) (us.drop ps.length) (by rw [List.length_take]; omega)
  rw [List.take_append_drop] at h1
  rw [show (([] : List Str).zip ([] : List Value)) = [] from rfl, h1, bind_assoc]
  have l1 : PySem.W.Looks (model P w) s.heap (nsGet D kn >>= k1) a := (PySem.W.looks_nsIn KX hq).andThen (PySem.W.Looks.of_pure h2)
  exact wpAny_bind (l1.here (by rw [h3]; exact z))
end
end Sh

set_option Elab.async false
set_option linter.all false
set_option maxRecDepth 100000
set_option maxHeartbeats 4000000
namespace Sh
open PySem PySem.Spec PyProof.Rows L2
/-- a def of the module that keeps its function -/
def Cal (P : Program) (w : World) (K : PySem.W.Frag) (mg : Str → Option Value) (base : Heap) (ca : Nat → Addr) (fn xn : Nat → List Str) (x : Str) (k n : Nat) (FF : List T → Sto → Z T) : Prop :=
  (∃ (f : Addr) (fd : FuncData) (ps : List Str), FnOk P w K mg base (L2.CX P w) k f fd ps (spF K ca fn xn n FF) ∧ mg x = some (.ref f) ∧ PySem.W.keepIn K (.ref f) = true ∧ Binds K fd ps []) ∧ ∀ as st, as.length ≠ n → FF as st = .bad
/-- .. as it stands in the written part -/
def Def (K : PySem.W.Frag) (mg : Str → Option Value) (x : Str) (st : Stmt) : Prop := ∃ (f : Addr) (fd : FuncData), Fun K x x st f fd ∧ mg x = some (.ref f)
section
variable {X : Cx} {E : RE} {W : XK} {x : Str} {k k0 n : Nat} {FF : List T → Sto → Z T} {e : Expr} {es : List Expr} {fs : Fa} {p pos : Pos}
theorem x_callC (C : Cal X.prog X.w X.K X.mg X.base E.ca E.fn E.xn x k n FF) (hK : X.K = E.K) (hr : Room k0 X.A) (hk : k ≤ k0) (hx : Passes (L2.CX X.prog X.w) X W) (ha : PA X (e :: es) (tFs E W fs)) (hg : Gl X x := by rfl) (hdb : (x == ("__debug__" : Str)) = false := by decide)
    (he : starEach (e :: es) X.env = (false, eval e X.env) :: starEach es X.env := by rfl) (hpl : (backTo pos (starEach es X.env)).any (·.1) = false := by rfl) : PE X (.Call (.Name x p) (e :: es) [] pos) (tF E W (vA FF fs)) := by
  obtain ⟨⟨f, fd, ps, F, hm, hkp, hb⟩, hF⟩ := C
  exact x_call (n := n) (by rw [hK] at F; unfold OkF; rw [hK]; exact F) (hr.mono hk) hm hkp hb hx ha hF hg hdb he hpl
theorem x_callC0 (C : Cal X.prog X.w X.K X.mg X.base E.ca E.fn E.xn x k n FF) (hK : X.K = E.K) (hr : Room k0 X.A) (hk : k ≤ k0) (hx : Passes (L2.CX X.prog X.w) X W) (hg : Gl X x := by rfl) (hdb : (x == ("__debug__" : Str)) = false := by decide) : PE X (.Call (.Name x p) [] [] pos) (tF E W (fun _ s => FF [] s)) := by
  obtain ⟨⟨f, fd, ps, F, hm, hkp, hb⟩, hF⟩ := C
  exact x_call0 (n := n) (by rw [hK] at F; unfold OkF; rw [hK]; exact F) (hr.mono hk) hm hkp hb hx hF hg hdb
end
section
variable {P : Program} {w : World} {K : PySem.W.Frag} {mg : Str → Option Value} {base : Heap} {ca : Nat → Addr} {fn xn : Nat → List Str}
theorem cal_of {x : Str} {stt : Stmt} {N ps : List Str} {k n : Nat} {b : Fs} (D : Def K mg x stt) (S : FnScope N ps (defScope stt)) (hn : ps.length = n) (hps : ps.length ≤ N.length)
    (hb : ∀ (kV doc pm : Value) (an : Option Addr) (cdv ct : Value) (us : List Value), us.length = ps.length → bindArgs (PySem.W.fnOf x x (defArgs stt) (defBody stt) (defScope stt) Value.none kV doc pm an cdv ct) { pos := us } = pure (ps.zip us))
    (hbody : ∀ (f : Addr) (l : List Addr) (cdv : Value) (A : Around) (outer : List Env) (s : Shared) (H : Hp) (W : XK), Room k (A.deeper (envOfC x (defScope stt) s.heap.objs.size f cdv)) →
      PSs (cxOf (L2.CX P w) P w K mg base N x (defScope stt) f cdv A outer s H W) (defBody stt) (tS ⟨K, ca, fn, xn, l⟩ W b)) :
    Cal P w K mg base ca fn xn x (k + 1) n (defF fn n N.length b) := by
  obtain ⟨f, fd, F, hm⟩ := D
  subst hn
  exact ⟨⟨f, fd, ps, okF F S hps (hbody f), hm, F.kp, F.binds hb⟩, fun as st h => if_neg h⟩
end
end Sh

set_option Elab.async false
set_option linter.all false
set_option maxRecDepth 100000
set_option maxHeartbeats 4000000
namespace Sh
open PySem PySem.Spec PyProof.Rows L2
/-! ### a place within a tuple, on the way to a dict that is walked -/
def pIx (i : Int) (p : Pth) : Pth := fun ρ s => match p ρ s with
  | some t => match asT t with | some xs => atI xs i | none => none
  | none => none
theorem sw_sqT {K : PySem.W.Frag} {H H' : Hp} {a : Addr} {vs : List V} (sw : Sw H H') (h : SqT K H a vs) : SqT K H' a vs := h.elim (fun z => .inl (z.elim (fun y => .inl (sw.o _ _ (fun z => nomatch z) y)) fun ⟨o, y⟩ => .inr ⟨o, sw.o _ _ (fun z => nomatch z) y⟩)) .inr
section
variable {X : Cx} {E : RE}
theorem p_ix {p : Pth} {tp : TE} {i : Int} (hK : X.K = E.K) (hp : PthR E p tp) : PthR E (pIx i p) (tOp (rIxT X.K) tp (tC (.int i))) := fun l m ρ s σ H t j h => by
  unfold pIx at h
  cases hq : p ρ s with
  | none => rw [hq] at h; cases h
  | some u =>
    rw [hq] at h
    dsimp only at h
    cases ht : asT u with
    | none => rw [ht] at h; cases h
    | some xs =>
      rw [ht] at h
      obtain ⟨v, r, hv⟩ := hp l m ρ s σ H u j hq
      obtain ⟨a, vs, rfl, sq, rs⟩ := asT_ok ht r
      obtain ⟨w, g1, g2⟩ := atI_ok rs h
      exact ⟨w, g2, fun H' sw Q q => hv H' sw _ ⟨a, vs, i, w, rfl, rfl, hK ▸ sw_sqT sw sq, g1, q⟩⟩
/-- .. its reading as an expression -/
theorem pe_pix {e : Expr} {te : TE} {i : Int} {pos pos' : Pos} {k : Nat} (he : PE X e te) : PE X (.Subscript e (.Constant (.int i) k pos') pos) (tOp (rIxT X.K) te (tC (.int i))) := pe_ix ix_tup he pe_int fun _ _ => rfl
end
end Sh

set_option Elab.async false
set_option linter.all false
set_option maxRecDepth 100000
set_option maxHeartbeats 4000000
namespace Sh
open PySem PySem.Spec PyProof.Rows L2
/-! ### a class's methods and properties, as they stand in the written part -/
/-- a method of the class at C -/
def MDef (K : PySem.W.Frag) (C : Addr) (x qual : Str) (st : Stmt) : Prop := ∃ (f : Addr) (fd : FuncData), Fun K x qual st f fd ∧ PySem.W.findIn K (.ref C) x = some (some (.ref f)) ∧ PySem.W.isFn K (.ref f) = true ∧ PySem.W.fnIn K f = true
/-- a property's getter -/
def PDef (K : PySem.W.Frag) (C : Addr) (x qual : Str) (st : Stmt) : Prop := ∃ (p f : Addr) (fd : FuncData), Fun K x qual st f fd ∧ PropOf K C x p f
def OwnP (P : Program) (w : World) (K : PySem.W.Frag) (mg : Str → Option Value) (base : Heap) (ca : Nat → Addr) (fn xn : Nat → List Str) (c0 : Nat) (x : Str) (k n : Nat) (FF : List T → Sto → Z T) : Prop :=
  (∃ (g : Addr) (fd : FuncData) (ps : List Str), PySem.W.findIn K (.ref (ca c0)) x = some (some (.ref g)) ∧ PySem.W.isFn K (.ref g) = true ∧ PySem.W.fnIn K g = true ∧ PySem.W.keepIn K (.ref g) = true ∧ FnOk P w K mg base (L2.CX P w) k g fd ps (spF K ca fn xn n FF) ∧ Binds K fd ps []) ∧ ∀ as st, as.length ≠ n → FF as st = .bad
def PropP (P : Program) (w : World) (K : PySem.W.Frag) (mg : Str → Option Value) (base : Heap) (ca : Nat → Addr) (fn xn : Nat → List Str) (c0 : Nat) (x : Str) (k : Nat) (FF : List T → Sto → Z T) : Prop :=
  (∃ (p g : Addr) (fd : FuncData) (ps : List Str), PropOf K (ca c0) x p g ∧ FnOk P w K mg base (L2.CX P w) k g fd ps (spF K ca fn xn 1 FF) ∧ Binds K fd ps []) ∧ ∀ as st, as.length ≠ 1 → FF as st = .bad
section
variable {P : Program} {w : World} {K : PySem.W.Frag} {mg : Str → Option Value} {base : Heap} {ca : Nat → Addr} {fn xn : Nat → List Str}
theorem ownP_of {c0 : Nat} {x qual : Str} {stt : Stmt} {N ps : List Str} {k n : Nat} {b : Fs} (D : MDef K (ca c0) x qual stt) (S : FnScope N ps (defScope stt)) (hn : ps.length = n) (hps : ps.length ≤ N.length)
    (hb : ∀ (kV doc pm : Value) (an : Option Addr) (cdv ct : Value) (us : List Value), us.length = ps.length → bindArgs (PySem.W.fnOf x qual (defArgs stt) (defBody stt) (defScope stt) Value.none kV doc pm an cdv ct) { pos := us } = pure (ps.zip us))
    (hbody : ∀ (f : Addr) (l : List Addr) (cdv : Value) (A : Around) (outer : List Env) (s : Shared) (H : Hp) (W : XK), Room k (A.deeper (envOfC qual (defScope stt) s.heap.objs.size f cdv)) →
      PSs (cxOf (L2.CX P w) P w K mg base N qual (defScope stt) f cdv A outer s H W) (defBody stt) (tS ⟨K, ca, fn, xn, l⟩ W b)) :
    OwnP P w K mg base ca fn xn c0 x (k + 1) n (defF fn n N.length b) := by
  obtain ⟨f, fd, F, h1, h2, h3⟩ := D
  subst hn
  exact ⟨⟨f, fd, ps, h1, h2, h3, F.kp, okF F S hps (hbody f), F.binds hb⟩, fun as st h => if_neg h⟩
theorem propP_of {c0 : Nat} {x qual : Str} {stt : Stmt} {N ps : List Str} {k : Nat} {b : Fs} (D : PDef K (ca c0) x qual stt) (S : FnScope N ps (defScope stt)) (hn : ps.length = 1) (hps : ps.length ≤ N.length)
    (hb : ∀ (kV doc pm : Value) (an : Option Addr) (cdv ct : Value) (us : List Value), us.length = ps.length → bindArgs (PySem.W.fnOf x qual (defArgs stt) (defBody stt) (defScope stt) Value.none kV doc pm an cdv ct) { pos := us } = pure (ps.zip us))
    (hbody : ∀ (f : Addr) (l : List Addr) (cdv : Value) (A : Around) (outer : List Env) (s : Shared) (H : Hp) (W : XK), Room k (A.deeper (envOfC qual (defScope stt) s.heap.objs.size f cdv)) →
      PSs (cxOf (L2.CX P w) P w K mg base N qual (defScope stt) f cdv A outer s H W) (defBody stt) (tS ⟨K, ca, fn, xn, l⟩ W b)) :
    PropP P w K mg base ca fn xn c0 x (k + 1) (defF fn 1 N.length b) := by
  obtain ⟨p, f, fd, F, h1⟩ := D
  have ok := okF F S hps (hbody f)
  rw [hn] at ok
  exact ⟨⟨p, f, fd, ps, h1, ok, F.binds hb⟩, fun as st h => if_neg h⟩
end
section
variable {X : Cx} {E : RE} {W : XK} {c0 k n : Nat} {x : Str} {FF : List T → Sto → Z T}
/-- for a rule at X -/
theorem OwnP.at (O : OwnP X.prog X.w X.K X.mg X.base E.ca E.fn E.xn c0 x k n FF) (hK : X.K = E.K) : Own X E c0 x k n FF := by
  obtain ⟨⟨g, fd, ps, h1, h2, h3, _, F, hb⟩, hF⟩ := O
  exact ⟨⟨g, fd, ps, h1, h2, h3, by unfold OkF; rw [← hK]; exact F, hb⟩, hF⟩
theorem x_propC {k0 : Nat} {e : Expr} {fe : Fx} {pos : Pos} (O : PropP X.prog X.w X.K X.mg X.base E.ca E.fn E.xn c0 x k FF) (hK : X.K = E.K) (cl : Cls X.K (E.ca c0)) (hr : Room k0 X.A) (hk : k + 1 ≤ k0) (he : PE X e (tF E W fe)) (hab : attributeBase e x X.env (eval e X.env) = eval e X.env := by rfl) : PE X (.Attribute e x pos) (tF E W (v1 (hProp E.fn c0 FF) fe)) := by
  obtain ⟨⟨p, g, fd, ps, h1, F, hb⟩, hF⟩ := O
  exact x_prop (n := 1) c0 cl h1 (by unfold OkF; rw [← hK]; exact F) (hr.mono hk) hb he hF hab
end
end Sh

set_option Elab.async false
set_option linter.all false
set_option maxRecDepth 100000
set_option maxHeartbeats 4000000
namespace Sh
open PySem PySem.Spec PyProof.Rows L2
/-! ### a class that is called -/
def IDef (K : PySem.W.Frag) (C : Addr) (qual : Str) (st : Stmt) : Prop := ∃ (f : Addr) (fd : FuncData), Fun K "__init__" qual st f fd ∧ Mk K C f
/-- .. whose keyword kn has the default dv -/
def IDefK (K : PySem.W.Frag) (C : Addr) (qual : Str) (st : Stmt) (kn : Str) (dv : V) : Prop := ∃ (f : Addr) (fd : FuncData), FunK K "__init__" qual st kn dv f fd ∧ Mk K C f
def MakeP (P : Program) (w : World) (K : PySem.W.Frag) (mg : Str → Option Value) (base : Heap) (ca : Nat → Addr) (fn xn : Nat → List Str) (c0 k n : Nat) (FF : List T → Sto → Z T) : Prop :=
  (∃ (f : Addr) (fd : FuncData) (ps : List Str), Mk K (ca c0) f ∧ FnOk P w K mg base (L2.CX P w) k f fd ps (spF K ca fn xn n FF) ∧ Binds K fd ps []) ∧ ∀ as st, as.length ≠ n → FF as st = .bad
def MakeS (P : Program) (w : World) (K : PySem.W.Frag) (mg : Str → Option Value) (base : Heap) (ca : Nat → Addr) (fn xn : Nat → List Str) (c0 k : Nat) (ks : List Str) (FF : List T → Sto → Z T) : Prop :=
  ∃ f : Addr, Mk K (ca c0) f ∧ FnS P w K mg base ca fn xn k f ks FF
section
variable {P : Program} {w : World} {K : PySem.W.Frag} {mg : Str → Option Value} {base : Heap} {ca : Nat → Addr} {fn xn : Nat → List Str}
theorem makeP_of {c0 : Nat} {qual : Str} {stt : Stmt} {N ps : List Str} {k n : Nat} {b : Fs} (D : IDef K (ca c0) qual stt) (S : FnScope N ps (defScope stt)) (hn : ps.length = n) (hps : ps.length ≤ N.length)
    (hb : ∀ (kV doc pm : Value) (an : Option Addr) (cdv ct : Value) (us : List Value), us.length = ps.length → bindArgs (PySem.W.fnOf "__init__" qual (defArgs stt) (defBody stt) (defScope stt) Value.none kV doc pm an cdv ct) { pos := us } = pure (ps.zip us))
    (hbody : ∀ (f : Addr) (l : List Addr) (cdv : Value) (A : Around) (outer : List Env) (s : Shared) (H : Hp) (W : XK), Room k (A.deeper (envOfC qual (defScope stt) s.heap.objs.size f cdv)) →
      PSs (cxOf (L2.CX P w) P w K mg base N qual (defScope stt) f cdv A outer s H W) (defBody stt) (tS ⟨K, ca, fn, xn, l⟩ W b)) :
    MakeP P w K mg base ca fn xn c0 (k + 1) n (defF fn n N.length b) := by
  obtain ⟨f, fd, F, h1⟩ := D
  subst hn
  exact ⟨⟨f, fd, ps, h1, okF F S hps (hbody f), F.binds hb⟩, fun as st h => if_neg h⟩
theorem makeS_of {c0 : Nat} {qual : Str} {stt : Stmt} {N ps ks : List Str} {pv : Str} {k n nk : Nat} {b : Fs} (D : IDef K (ca c0) qual stt) (S : FnScope N (ps ++ ks ++ [pv]) (defScope stt)) (hn : ps.length = n) (hnk : ks.length = nk) (hps : (ps ++ ks ++ [pv]).length ≤ N.length)
    (hb : ∀ (kV doc pm : Value) (an : Option Addr) (cdv ct : Value) (us rest ws : List Value), us.length = ps.length → ws.length = ks.length → bindArgs (PySem.W.fnOf "__init__" qual (defArgs stt) (defBody stt) (defScope stt) Value.none kV doc pm an cdv ct) ⟨us ++ rest, ks.zip ws⟩ = (newTuple rest >>= fun t => pure ((ps ++ ks).zip (us ++ ws) ++ [(pv, t)])))
    (hbody : ∀ (f : Addr) (l : List Addr) (cdv : Value) (A : Around) (outer : List Env) (s : Shared) (H : Hp) (W : XK), Room k (A.deeper (envOfC qual (defScope stt) s.heap.objs.size f cdv)) →
      PSs (cxOf (L2.CX P w) P w K mg base N qual (defScope stt) f cdv A outer s H W) (defBody stt) (tS ⟨K, ca, fn, xn, l⟩ W b)) :
    MakeS P w K mg base ca fn xn c0 (k + 1) ks (starF fn n nk N.length b) := by
  obtain ⟨f, fd, F, h1⟩ := D
  subst hn hnk
  exact ⟨f, h1, okS F S hps hb (hbody f)⟩
theorem makeS0_of {c0 : Nat} {qual : Str} {stt : Stmt} {N ps : List Str} {kn pv : Str} {dv : V} {dt : T} {k n : Nat} {b : Fs} (D : IDefK K (ca c0) qual stt kn dv) (hdt : ∀ E m H, R E m H dt dv) (S : FnScope N (ps ++ [kn] ++ [pv]) (defScope stt)) (hn : ps.length = n) (hps : (ps ++ [kn] ++ [pv]).length ≤ N.length)
    (hb : ∀ (D : Addr) (doc pm : Value) (an : Option Addr) (cdv ct z : Value) (us rest : List Value), us.length = ps.length → ∃ (β γ : Type) (k1 : Option Value → Sem β) (k2 : β → Sem γ) (k3 : γ → Sem (List (Str × Value))) (a : β),
      bindArgs (PySem.W.fnOf "__init__" qual (defArgs stt) (defBody stt) (defScope stt) Value.none (.ref D) doc pm an cdv ct) ⟨us ++ rest, []⟩ = ((nsGet D kn >>= k1) >>= k2) >>= k3 ∧ k1 (some z) = pure a ∧ (k2 a >>= k3) = (newTuple rest >>= fun t => pure ((ps ++ [kn]).zip (us ++ [z]) ++ [(pv, t)])))
    (hbody : ∀ (f : Addr) (l : List Addr) (cdv : Value) (A : Around) (outer : List Env) (s : Shared) (H : Hp) (W : XK), Room k (A.deeper (envOfC qual (defScope stt) s.heap.objs.size f cdv)) →
      PSs (cxOf (L2.CX P w) P w K mg base N qual (defScope stt) f cdv A outer s H W) (defBody stt) (tS ⟨K, ca, fn, xn, l⟩ W b)) :
    MakeS P w K mg base ca fn xn c0 (k + 1) [] (fun as st => starF fn n 1 N.length b (as ++ [dt]) st) := by
  obtain ⟨f, fd, F, h1⟩ := D
  subst hn
  exact ⟨f, h1, okS0 F hdt S hps hb (hbody f)⟩
end
theorem a_len0 {ρ : Lo} {st : Sto} {t : List T} {s : Sto} (h : aNil ρ st = .ok t s) : t.length = 0 := by cases h; rfl
theorem a_len1 {f : Fx} {ρ : Lo} {st : Sto} {t : List T} {s : Sto} (h : aCons f aNil ρ st = .ok t s) : t.length = 1 := by
  unfold aCons at h
  cases hz : f ρ st with
  | ok x s1 => rw [hz] at h; cases h; rfl
  | exc c y s1 => rw [hz] at h; cases h
  | bad => rw [hz] at h; cases h
section
variable {X : Cx} {E : RE} {W : XK} {c0 k k0 n : Nat} {x : Str} {ks : List Str} {FF : List T → Sto → Z T} {e : Expr} {es : List Expr} {kws : List Keyword} {fs fk : Fa} {p pos : Pos}
theorem x_makeC (O : MakeP X.prog X.w X.K X.mg X.base E.ca E.fn E.xn c0 k n FF) (hK : X.K = E.K) (hm : X.mg x = some (.ref (E.ca c0))) (hr : Room k0 X.A) (hk : k + 1 ≤ k0) (hx : Passes (L2.CX X.prog X.w) X W) (ha : PA X (e :: es) (tFs E W fs)) (hg : Gl X x := by rfl) (hdb : (x == ("__debug__" : Str)) = false := by decide)
    (he : starEach (e :: es) X.env = (false, eval e X.env) :: starEach es X.env := by rfl) (hpl : (backTo pos (starEach es X.env)).any (·.1) = false := by rfl) : PE X (.Call (.Name x p) (e :: es) [] pos) (tF E W (vA (mkF E.fn c0 FF) fs)) := by
  obtain ⟨⟨f, fd, ps, M, F, hb⟩, hF⟩ := O
  exact x_make (n := n) c0 M (by unfold OkF; rw [← hK]; exact F) (hr.mono hk) hm hb hx ha hF hg hdb he hpl
theorem x_makeSC (O : MakeS X.prog X.w X.K X.mg X.base E.ca E.fn E.xn c0 k ks FF) (hK : X.K = E.K) (hm : X.mg x = some (.ref (E.ca c0))) (hr : Room k0 X.A) (hk : k + 1 ≤ k0) (hx : Passes (L2.CX X.prog X.w) X W) (ha : PA X (e :: es) (tFs E W fs)) (hkw : PK X kws (tFs E W fk)) (hlen : ∀ {ρ : Lo} {st : Sto} {t : List T} {s : Sto}, fk ρ st = .ok t s → t.length = ks.length)
    (hg : Gl X x := by rfl) (hdb : (x == ("__debug__" : Str)) = false := by decide) (hall : (backToKw pos (keywordEach kws X.env)).all (·.1.isSome) = true := by rfl) (hks : (backToKw pos (keywordEach kws X.env)).filterMap (·.1) = ks := by rfl) (he : starEach (e :: es) X.env = (false, eval e X.env) :: starEach es X.env := by rfl) :
    PE X (.Call (.Name x p) (e :: es) kws pos) (tF E W (vMakeS E.fn c0 FF fs fk)) := by
  obtain ⟨f, M, F⟩ := O
  exact x_makeS c0 M F hK (hr.mono hk) hm hx ha hkw hg hdb hall hks he hlen
end
end Sh

set_option Elab.async false
set_option linter.all false
set_option maxRecDepth 100000
set_option maxHeartbeats 4000000
namespace Sh
open PySem PySem.Spec PyProof.Rows L2
section
variable {X : Cx} {E : RE} {W : XK} {c0 k k0 n : Nat} {mn : Str} {FF : List T → Sto → Z T} {o e : Expr} {es : List Expr} {fe : Fx} {fs : Fa} {apos pos : Pos} {pl : Sem Bool}
/-- o.m(e, ..) -/
theorem x_methC (O : OwnP X.prog X.w X.K X.mg X.base E.ca E.fn E.xn c0 mn k n FF) (hK : X.K = E.K) (cl : Cls X.K (E.ca c0)) (hr : Room k0 X.A) (hk : k ≤ k0) (hx : Passes (L2.CX X.prog X.w) X W) (ho : PE X o (tF E W fe)) (ha : PA X (e :: es) (tFs E W fs))
    (hst : starEach (e :: es) X.env = (false, eval e X.env) :: starEach es X.env := by rfl) (hpl : (backTo pos (starEach es X.env)).any (·.1) = false := by rfl)
    (ht : eval (.Call (.Attribute o mn apos) (e :: es) [] pos) X.env = (eval o X.env >>= fun ov => standAt apos.atName >>= fun _ => holding [ov] (getMethod ov mn pl) >>= fun r => callWith pos r.1 r.2 (backTo pos (starEach (e :: es) X.env)) (backToKw pos (keywordEach [] X.env))) := by rfl) :
    PE X (.Call (.Attribute o mn apos) (e :: es) [] pos) (tF E W (hMeth E.fn c0 mn FF fe fs)) := by
  obtain ⟨⟨g, fd, ps, h1, h2, h3, h4, F, hb⟩, hF⟩ := O
  have F' : OkF X E k g fd ps n FF := by unfold OkF; rw [← hK]; exact F
  exact x_meth (n := n) (pl := pl) (t := fun _ _ _ => True) c0 cl ⟨h1, h2, h4⟩ F' (hr.mono hk) hb hx ho (fun ta tf a b => pe_meth (pl := pl) a cl ⟨h1, h2, h4⟩ F' (hr.mono hk) hb .nil hx b hst hpl ht) ha hF
end
end Sh

set_option Elab.async false
set_option linter.all false
set_option maxRecDepth 100000
set_option maxHeartbeats 4000000
namespace Sh
open PySem PySem.Spec PyProof.Rows L2
/-! ### lists that are cells: +, ==, append, pop; sum; slices of any kind -/
/-- an unlocked list -/
def asLf (s : Sto) : T → Option (List T)
  | .lst xs => some xs
  | .cell i => match s[i]? with | some (false, .lst xs) => some xs | _ => none
  | _ => none
def hAddF : T → T → Sto → Z T := fun a b s => match asLf s a, asLf s b with
  | some xs, some ys => if xs.length + ys.length ≤ lim then .ok (.lst (xs ++ ys)) s else .bad
  | _, _ => match asT a, asT b with
    | some xs, some ys => if xs.length + ys.length ≤ lim then .ok (if xs = [] then b else if ys = [] then a else .tup (xs ++ ys)) s else .bad
    | _, _ => match a, b with
      | .int i, .int j => .ok (.int (i + j)) s
      | .str x, .str y => if x.length + y.length ≤ lim then .ok (.str (x ++ y)) s else .bad
      | _, _ => .bad
/-- .. a list that changes later -/
def hAddC : T → T → Sto → Z T := fun a b s => match asLf s a, asLf s b with
  | some xs, some ys => if (decide (xs.length + ys.length ≤ lim) && (purs xs && purs ys)) = true then .ok (.cell s.length) (s ++ [(false, .lst (xs ++ ys))]) else .bad
  | _, _ => .bad
/-- as data, also a list's cell -/
def toPyF (s : Sto) : T → Option PyData
  | .cell i => match s[i]? with | some (_, .lst xs) => (toPys xs).map .list | _ => none
  | t => toPy t
def hEqF (p : Bool) : T → T → Sto → Z T := fun a b s => match toPyF s a, toPyF s b with
  | some d, some e => if (SeqAt.shaped d && SeqAt.shaped e) = true then .ok (.bl (if p then PyData.eqv d e else !PyData.eqv d e)) s else .bad
  | _, _ => .bad
section
variable {E : RE} {W : XK} {m m' : Ma} {H H' : Hp} {st s s' : Sto} {X : Cx} {t : T} {v : V} {xs : List T} {e : Expr} {fe : Fx} {pos : Pos}
theorem asLf_ok (h : asLf s t = some xs) (js : JS E m s H) (r : R E m H t v) : ∃ a vs, v = .ref a ∧ H a = some (.lst vs) ∧ Rs E m H xs vs := by
  cases t with
  | lst ys =>
    cases h
    obtain ⟨a, vs, ev, _, hs, hr⟩ := r
    exact ⟨a, vs, ev, hs, hr⟩
  | cell i =>
    unfold asLf at h
    dsimp only at h
    split at h
    · rename_i ys q
      cases h
      obtain ⟨a, k, u, rfl, _, ⟨vs, rfl, hr⟩, lk⟩ := cell_of js r q
      cases k with
      | none => exact ⟨a, vs, rfl, lk, hr⟩
      | some _ => exact lk.elim
    · cases h
  | _ => cases h
theorem o_addF (hK : X.K = E.K) : OpR X (binaryOp .Add) (rF2 E W hAddF) := by
  intro pins s σ H x y v u Q I rx ry h
  obtain ⟨a, b, st, m, js, ra, rb, q⟩ := h
  unfold hAddF at q
  split at q
  · rename_i xs ys h1 h2
    split at q
    · rename_i hl
      obtain ⟨p, vs, rfl, hp, hr⟩ := asLf_ok h1 js ra
      obtain ⟨p2, ws, rfl, hp2, hr2⟩ := asLf_ok h2 js rb
      exact op_cat pins s σ H _ _ v u Q I rx ry ⟨p, p2, vs, ws, rfl, rfl, hp, hp2, by rw [← hr.length, ← hr2.length]; exact lim_line hl, fun z nz => PZ.new q js nz ⟨z, _, rfl, js.fresh nz, upd_same, (hr.append hr2).mono .refl (keep_new nz)⟩⟩
    · exact q.elim
  · split at q
    · rename_i xs ys h1 h2
      split at q
      · rename_i hl
        have ra0 := ra
        have rb0 := rb
        obtain ⟨p, vs, rfl, hp, hr⟩ := asT_ok h1 ra
        obtain ⟨p2, ws, rfl, hp2, hr2⟩ := asT_ok h2 rb
        have e1 : ∀ {ts : List T} {us : List V}, Rs E m H ts us → us = [] → ts = [] := fun {ts us} r e => by
          have := r.length
          rw [e] at this
          exact List.eq_nil_of_length_eq_zero this
        have e2 : ∀ {ts : List T} {us : List V}, Rs E m H ts us → us ≠ [] → ts ≠ [] := fun {ts us} r n e => by
          have := r.length
          rw [e] at this
          exact n (List.eq_nil_of_length_eq_zero this.symm)
        refine op_catA pins s σ H _ _ v u Q I rx ry ⟨p, p2, vs, ws, rfl, rfl, hK ▸ hp, hK ▸ hp2, by rw [← hr.length, ← hr2.length]; exact lim_line hl, fun e => ?_, fun n e => ?_, fun n n2 z nz => ?_⟩
        · rw [if_pos (e1 hr e)] at q
          exact PZ.ok q js rb0
        · rw [if_neg (e2 hr n), if_pos (e1 hr2 e)] at q
          exact PZ.ok q js ra0
        · rw [if_neg (e2 hr n), if_neg (e2 hr2 n2)] at q
          exact PZ.new q js nz ⟨z, _, rfl, js.fresh nz, upd_same, (hr.append hr2).mono .refl (keep_new nz)⟩
      · exact q.elim
    · split at q
      · cases (show x = _ from ra); cases (show y = _ from rb)
        exact op_add pins s σ H _ _ v u Q I rx ry ⟨_, _, rfl, rfl, PZ.ok q js rfl⟩
      · cases (show x = _ from ra); cases (show y = _ from rb)
        split at q
        · rename_i hl
          exact op_add_str pins s σ H _ _ v u Q I rx ry ⟨_, _, rfl, rfl, lim_line hl, PZ.ok q js rfl⟩
        · exact q.elim
      · exact q.elim
theorem purs_app' : ∀ {xs ys : List T}, purs xs = true → purs ys = true → purs (xs ++ ys) = true := purs_app
theorem o_addC : OpR X (binaryOp .Add) (rF2 E W hAddC) := by
  intro pins s σ H x y v u Q I rx ry h
  obtain ⟨a, b, st, m, js, ra, rb, q⟩ := h
  unfold hAddC at q
  split at q
  · rename_i xs ys h1 h2
    split at q
    · rename_i hl
      rw [Bool.and_eq_true, Bool.and_eq_true] at hl
      have hl1 := of_decide_eq_true hl.1
      obtain ⟨p, vs, rfl, hp, hr⟩ := asLf_ok h1 js ra
      obtain ⟨p2, ws, rfl, hp2, hr2⟩ := asLf_ok h2 js rb
      exact op_cat pins s σ H _ _ v u Q I rx ry ⟨p, p2, vs, ws, rfl, rfl, hp, hp2, by rw [← hr.length, ← hr2.length]; exact lim_line hl1, fun z nz => PZ.newc q js nz ⟨_, rfl, hr.append hr2⟩ (purs_app hl.2.1 hl.2.2) (cell_new js)⟩
    · exact q.elim
  · exact q.elim
theorem R.dpF {d : PyData} (js : JS E m s H) (r : R E m H t v) (h : toPyF s t = some d) : Dp E.K H v d := by
  cases t with
  | cell i =>
    unfold toPyF at h
    dsimp only at h
    split at h
    · rename_i b xs q
      obtain ⟨ds, h1, rfl⟩ := Option.map_eq_some_iff.mp h
      obtain ⟨a, k, u, rfl, _, ⟨vs, rfl, hr⟩, lk⟩ := cell_of js r q
      exact .lst (.inl lk.rd) (hr.dp h1)
    · cases h
  | _ => exact R.dp r h
theorem o_eqFs {f : Value → Value → Sem Value} {p : Bool} (hK : X.K = E.K) (ho : OpR X f (fun x y H Q => ∃ d e, Dp X.K H x d ∧ Dp X.K H y e ∧ SeqAt.shaped d = true ∧ SeqAt.shaped e = true ∧ Q (.bl (if p then PyData.eqv d e else !PyData.eqv d e)) H)) : OpR X f (rF2 E W (hEqF p)) := by
  intro pins s σ H x y v u Q I rx ry h
  obtain ⟨a, b, st, m, js, ra, rb, q⟩ := h
  unfold hEqF at q
  split at q
  · rename_i d e h1 h2
    split at q
    · rename_i hs
      rw [Bool.and_eq_true] at hs
      exact ho pins s σ H x y v u Q I rx ry ⟨d, e, hK ▸ ra.dpF js h1, hK ▸ rb.dpF js h2, hs.1, hs.2, PZ.ok q js rfl⟩
    · exact q.elim
  · exact q.elim
theorem o_eqF (hK : X.K = E.K) (hu : X.A.units + 64 < cLine) : OpR X (compareOp .Eq) (rF2 E W (hEqF true)) := o_eqFs hK (op_eqD hu)
theorem o_neF (hK : X.K = E.K) (hu : X.A.units + 64 < cLine) : OpR X (compareOp .NotEq) (rF2 E W (hEqF false)) := o_eqFs hK (op_neD hu)

/-! o.append(e), o.pop(e), o.pop() -/
def isLu (s : Sto) : T → Bool
  | .cell i => match s[i]? with | some (false, .lst _) => true | _ => false
  | _ => false
def hAppend (o x : T) (s : Sto) : Z T := match o with
  | .cell i => match s[i]? with
    | some (false, .lst xs) => if (decide (xs.length < lim) && pur x) = true then .ok .non (s.set i (false, .lst (xs ++ [x]))) else .bad
    | _ => .bad
  | _ => .bad
def vAppend (fo fx : Fx) : Fx := fun ρ st => (fo ρ st).then fun o s => if isLu s o = true then (fx ρ s).then fun x s => hAppend o x s else .bad
def hPop (o : T) (s : Sto) : Z T := match o with
  | .cell i => match s[i]? with
    | some (false, .lst xs) => match xs[xs.length - 1]? with
      | some y => .ok y (s.set i (false, .lst xs.dropLast))
      | none => .bad
    | _ => .bad
  | _ => .bad
def hPopAt (o x : T) (s : Sto) : Z T := match o with
  | .cell i => match s[i]? with
    | some (false, .lst xs) => match x with
      | .int n => if decide (-(2 ^ 63) ≤ n ∧ n < 2 ^ 63) = true then match seqIndex? n xs.length with
        | some k => match xs[k]? with
          | some y => .ok y (s.set i (false, .lst (xs.eraseIdx k)))
          | none => .bad
        | none => .bad
        else .bad
      | _ => .bad
    | _ => .bad
  | _ => .bad
def vPopAt (fo fx : Fx) : Fx := fun ρ st => (fo ρ st).then fun o s => if isLu s o = true then (fx ρ s).then fun x s => hPopAt o x s else .bad
theorem isLu_ok (h : isLu s t = true) (js : JS E m s H) (r : R E m H t v) : tyV X.K "list" v H := by
  cases t with
  | cell i =>
    unfold isLu at h
    dsimp only at h
    split at h
    · rename_i ys q
      obtain ⟨a, k, u, rfl, _, ⟨vs, rfl, hr⟩, lk⟩ := cell_of js r q
      exact .inl ⟨rfl, vs, .inl lk.rd⟩
    · cases h
  | _ => cases h
theorem lu_cell (js : JS E m s H) {i : Nat} (r : R E m H (.cell i) v) (q : s[i]? = some (false, .lst xs)) : ∃ a vs, v = .ref a ∧ m[i]? = some (a, none) ∧ H a = some (.lst vs) ∧ Rs E m H xs vs := by
  obtain ⟨a, k, u, rfl, hm, ⟨vs, rfl, hr⟩, lk⟩ := cell_of js r q
  cases k with
  | none => exact ⟨a, vs, rfl, hm, lk, hr⟩
  | some _ => exact lk.elim
theorem purs_dropLast : ∀ {xs : List T}, purs xs = true → purs xs.dropLast = true
  | [], h => h
  | [_], _ => rfl
  | x :: y :: xs, h => by
    unfold purs at h
    rw [Bool.and_eq_true] at h
    have : (x :: y :: xs).dropLast = x :: (y :: xs).dropLast := rfl
    rw [this]
    unfold purs
    rw [h.1, purs_dropLast h.2]
    rfl
theorem purs_erase : ∀ {xs : List T} (k : Nat), purs xs = true → purs (xs.eraseIdx k) = true
  | [], _, h => h
  | x :: xs, 0, h => by unfold purs at h; rw [Bool.and_eq_true] at h; exact h.2
  | x :: xs, k + 1, h => by
    unfold purs at h
    rw [Bool.and_eq_true] at h
    show purs (x :: xs.eraseIdx k) = true
    unfold purs
    rw [h.1, purs_erase k h.2]
    rfl
theorem Rs.dropLast : ∀ {xs : List T} {vs : List V}, Rs E m H xs vs → Rs E m H xs.dropLast vs.dropLast
  | [], _, h => by cases (show _ = [] from h); exact rfl
  | [_], _, ⟨v, r, e, _, h⟩ => by cases (show r = [] from h); subst e; exact rfl
  | x :: y :: xs, _, ⟨v, r, e, h1, h2⟩ => by
    subst e
    obtain ⟨w, r2, e2, h3, h4⟩ := id h2
    subst e2
    exact ⟨v, _, rfl, h1, Rs.dropLast h2⟩
theorem Rs.erase : ∀ {xs : List T} {vs : List V} (k : Nat), Rs E m H xs vs → Rs E m H (xs.eraseIdx k) (vs.eraseIdx k)
  | [], _, _, h => by cases (show _ = [] from h); exact rfl
  | _ :: _, _, 0, ⟨v, r, e, _, h⟩ => by subst e; exact h
  | _ :: _, _, k + 1, ⟨v, r, e, h1, h2⟩ => by subst e; exact ⟨v, _, rfl, h1, Rs.erase k h2⟩
section
variable {o : Expr} {fo : Fx} {apos cpos : Pos}
theorem x_append (ho : PE X o (tF E W fo)) (he : PE X e (tF E W fe)) (hbase : attributeBase o "append" X.env (eval o X.env) = eval o X.env := by rfl)
    (hfew : ((backTo cpos (starEach [e] X.env)).all (fun x => !x.1) && (backToKw cpos (keywordEach [] X.env)).all (fun x => x.1.isSome) && decide ([e].length + ([] : List Keyword).length + (if ([] : List Keyword).isEmpty then 0 else 1) < 30)) = true := by rfl)
    (hline : (apos.endLine == cpos.line) = true := by rfl) (hs : starEach [e] X.env = (false, eval e X.env) :: starEach [] X.env := by rfl) (hpl : (backTo cpos (starEach [] X.env)).any (·.1) = false := by rfl) :
    PE X (.Call (.Attribute o "append" apos) [e] [] cpos) (tF E W (vAppend fo fe)) := by
  refine (pe_bm (T := "list") PySem.F.plainAttrs_list PySem.F.slot_list_append PySem.F.type_list_append mt_append ho (pa_cons he pa_nil hs) hbase hfew hline hs hpl).weak fun σ H Q ⟨ρ, st, m, j, hp⟩ => ?_
  refine ⟨ρ, st, m, j, PZ.imp (fun v H1 z => ?_) (PZ.then (rel := R E) hp)⟩
  obtain ⟨x, s1, m1, _, e1, k1, js1, r1, q1⟩ := z
  by_cases hl : isLu s1 x = true
  case neg => rw [if_neg hl] at q1; exact q1.elim
  rw [if_pos hl] at q1
  refine ⟨isLu_ok hl js1 r1, ?_⟩
  refine ⟨ρ, s1, m1, j.step e1 k1 js1, PZ.imp (fun y H2 z => ?_) (PZ.then (rel := R E) q1)⟩
  obtain ⟨w, s2, m2, _, e2, k2, js2, r2, q2⟩ := z
  have r1' := r1.mono e2 k2
  unfold hAppend at q2
  split at q2
  · split at q2
    · rename_i i xs q
      split at q2
      · rename_i hc
        rw [Bool.and_eq_true] at hc
        obtain ⟨a, vs, rfl, hm, hH, hr⟩ := lu_cell js2 r1' q
        have wr := js2.write (o := .lst (xs ++ [w])) (u := .lst (vs ++ [y])) hm ⟨_, rfl, hr.append ⟨y, [], rfl, r2, rfl⟩⟩ (purs_app (js2.pu _ _ _ q) (by unfold purs; rw [hc.2]; rfl))
        exact ⟨a, vs, y, rfl, rfl, hH, by rw [← hr.length]; exact Nat.lt_trans (of_decide_eq_true hc.1) (by decide), PZ.at (v := V.non) q2 .refl wr.2 wr.1 rfl⟩
      · exact q2.elim
    · exact q2.elim
  · exact q2.elim
theorem x_pop (ho : PE X o (tF E W fo)) (hbase : attributeBase o "pop" X.env (eval o X.env) = eval o X.env := by rfl) (hline : (apos.endLine == cpos.line) = true := by rfl) :
    PE X (.Call (.Attribute o "pop" apos) [] [] cpos) (tF E W (v1 hPop fo)) := by
  refine (pe_bm0 (T := "list") PySem.F.plainAttrs_list PySem.F.slot_list_pop PySem.F.type_list_pop mt_pop ho hbase hline).weak fun σ H Q ⟨ρ, st, m, j, hp⟩ => ?_
  refine ⟨ρ, st, m, j, PZ.imp (fun v H1 z => ?_) (PZ.then (rel := R E) hp)⟩
  obtain ⟨x, s1, m1, _, e1, k1, js1, r1, q1⟩ := z
  unfold hPop at q1
  split at q1
  · split at q1
    · rename_i i xs q
      split at q1
      · rename_i y hy
        obtain ⟨a, vs, rfl, hm, hH, hr⟩ := lu_cell js1 r1 q
        obtain ⟨w, hw, rw'⟩ := at_ok hr hy
        have wr := js1.write (o := .lst xs.dropLast) (u := .lst vs.dropLast) hm ⟨_, rfl, hr.dropLast⟩ (purs_dropLast (js1.pu _ _ _ q))
        exact ⟨.inl ⟨rfl, vs, .of hH⟩, a, vs, w, rfl, rfl, hH, by rw [← hr.length]; exact hw, PZ.at q1 .refl wr.2 wr.1 (rw'.mono .refl wr.2)⟩
      · exact q1.elim
    · exact q1.elim
  · exact q1.elim
theorem x_popAt (ho : PE X o (tF E W fo)) (he : PE X e (tF E W fe)) (hbase : attributeBase o "pop" X.env (eval o X.env) = eval o X.env := by rfl)
    (hfew : ((backTo cpos (starEach [e] X.env)).all (fun x => !x.1) && (backToKw cpos (keywordEach [] X.env)).all (fun x => x.1.isSome) && decide ([e].length + ([] : List Keyword).length + (if ([] : List Keyword).isEmpty then 0 else 1) < 30)) = true := by rfl)
    (hline : (apos.endLine == cpos.line) = true := by rfl) (hs : starEach [e] X.env = (false, eval e X.env) :: starEach [] X.env := by rfl) (hpl : (backTo cpos (starEach [] X.env)).any (·.1) = false := by rfl) :
    PE X (.Call (.Attribute o "pop" apos) [e] [] cpos) (tF E W (vPopAt fo fe)) := by
  refine (pe_bm (T := "list") PySem.F.plainAttrs_list PySem.F.slot_list_pop PySem.F.type_list_pop mt_popAt ho (pa_cons he pa_nil hs) hbase hfew hline hs hpl).weak fun σ H Q ⟨ρ, st, m, j, hp⟩ => ?_
  refine ⟨ρ, st, m, j, PZ.imp (fun v H1 z => ?_) (PZ.then (rel := R E) hp)⟩
  obtain ⟨x, s1, m1, _, e1, k1, js1, r1, q1⟩ := z
  by_cases hl : isLu s1 x = true
  case neg => rw [if_neg hl] at q1; exact q1.elim
  rw [if_pos hl] at q1
  refine ⟨isLu_ok hl js1 r1, ?_⟩
  refine ⟨ρ, s1, m1, j.step e1 k1 js1, PZ.imp (fun y H2 z => ?_) (PZ.then (rel := R E) q1)⟩
  obtain ⟨w, s2, m2, _, e2, k2, js2, r2, q2⟩ := z
  have r1' := r1.mono e2 k2
  unfold hPopAt at q2
  split at q2
  case h_2 => exact q2.elim
  split at q2
  case h_2 => exact q2.elim
  rename_i i xs q
  split at q2
  case h_2 => exact q2.elim
  rename_i n
  split at q2
  case isFalse => exact q2.elim
  rename_i hb
  have hb := of_decide_eq_true hb
  split at q2
  case h_2 => exact q2.elim
  rename_i k hk
  split at q2
  case h_2 => exact q2.elim
  rename_i t hy
  cases (show y = _ from r2)
  obtain ⟨a, vs, rfl, hm, hH, hr⟩ := lu_cell js2 r1' q
  obtain ⟨w, hw, rw'⟩ := at_ok hr hy
  have wr := js2.write (o := .lst (xs.eraseIdx k)) (u := .lst (vs.eraseIdx k)) hm ⟨_, rfl, hr.erase k⟩ (purs_erase k (js2.pu _ _ _ q))
  exact ⟨a, vs, _, k, w, rfl, rfl, hH, hb.1, hb.2, by rw [← hr.length]; exact hk, hw, PZ.at q2 .refl wr.2 wr.1 (rw'.mono .refl wr.2)⟩
end

/-! sum -/
def ints? : List T → Option (List Int)
  | [] => some []
  | .int i :: r => match ints? r with | some is => some (i :: is) | none => none
  | _ => none
theorem ints_ok : ∀ {ts : List T} {is : List Int} {vs : List V}, ints? ts = some is → Rs E m H ts vs → vs = is.map V.int
  | [], _, _, h, r => by cases h; exact r
  | t :: ts, is, vs, h, ⟨v, w, e, r1, r2⟩ => by
    subst e
    cases t with
    | int i =>
      unfold ints? at h
      cases q : ints? ts with
      | none => rw [q] at h; cases h
      | some js =>
        rw [q] at h
        cases h
        rw [show v = V.int i from r1, ints_ok q r2]
        rfl
    | _ => cases h
def hSum : List T → Sto → Z T := fun ts s => match ts with
  | [x] => match asL s x with
    | some ys => match ints? ys with | some is => .ok (.int is.sum) s | none => .bad
    | none => .bad
  | _ => .bad
theorem c_sum (hK : X.K = E.K) (hc : X.calm = true) : CallR X (.builtin "sum") (rFc E W hSum) := by
  intro pins sh σ H xs us Q I r h
  obtain ⟨as, st, m, js, ra, q⟩ := h
  unfold hSum at q
  split at q
  case h_2 => exact q.elim
  rename_i x
  obtain ⟨v, rfl, rv⟩ := vals_one rfl ra
  split at q
  case h_2 => exact q.elim
  rename_i ys hl
  split at q
  case h_2 => exact q.elim
  rename_i is hi
  obtain ⟨a, vs, rfl, sq, rs⟩ := asL_ok hl js rv
  rw [ints_ok hi rs] at sq
  exact cr_sum hc pins sh σ H _ us Q I r ⟨a, is, rfl, hK ▸ sq, PZ.ok q js rfl⟩

/-! slices of lists, tuples and texts -/
def vSlF (f : Fx) (fl fh : Fo) : Fx := fun ρ st => (f ρ st).then fun t s => (fl ρ s).then fun lo s => (fh ρ s).then fun hi s => match asL s t with
  | some xs => .ok (.lst (cutT xs lo hi)) s
  | none => match asT t with
    | some xs => .ok (if HT.sIx xs.length 0 lo = 0 ∧ HT.sIx xs.length xs.length hi = xs.length then t else .tup (cutT xs lo hi)) s
    | none => match t with
      | .str z => if z.length ≤ lim then .ok (.str (Txt.slice z lo hi)) s else .bad
      | _ => .bad
theorem x_sliceF {lo hi : Option Expr} {p2 : Pos} {fl fh : Fo} (hK : X.K = E.K) (he : PE X e (tF E W fe)) (hl : PO X lo (tFo E W fl)) (hh : PO X hi (tFo E W fh)) : PE X (.Subscript e (.Slice lo hi none p2) pos) (tF E W (vSlF fe fl fh)) :=
  (pe_slice ((sl_list.or sl_tupA).or C8.sl_txt) he hl hh).weak fun σ H Q ⟨ρ, st, m, j, hp⟩ => by
    refine ⟨ρ, st, m, j, PZ.imp (fun v H1 z => ?_) (PZ.then (rel := R E) hp)⟩
    obtain ⟨x, s1, m1, _, e1, k1, js1, r1, q1⟩ := z
    have j1 := j.step e1 k1 js1
    refine ⟨ρ, s1, m1, j1, PZ.imp (fun lo H2 z => ?_) (PZ.then (rel := fun _ _ a b => a = b) q1)⟩
    obtain ⟨lo', s2, m2, _, e2, k2, js2, r2, q2⟩ := z
    subst r2
    have j2 := j1.step e2 k2 js2
    refine ⟨ρ, s2, m2, j2, PZ.imp (fun hi H3 z => ?_) (PZ.then (rel := fun _ _ a b => a = b) q2)⟩
    obtain ⟨hi', s3, m3, _, e3, k3, js3, r3, q3⟩ := z
    subst r3
    have rx := (r1.mono e2 k2).mono e3 k3
    cases ha : asL s3 x with
    | some ts =>
      rw [ha] at q3
      obtain ⟨a, vs, rfl, sq, rs⟩ := asL_ok ha js3 rx
      exact .inl (.inl ⟨a, vs, rfl, hK ▸ sq, fun p np => PZ.new q3 js3 np ⟨p, _, rfl, js3.fresh np, upd_same, (cut_ok rs lo' hi').mono .refl (keep_new np)⟩⟩)
    | none =>
      rw [ha] at q3
      dsimp only at q3
      cases ht : asT x with
      | none =>
        rw [ht] at q3
        cases x with
        | str z =>
          dsimp only at q3
          split at q3
          · rename_i hz
            exact .inr ⟨z, rx, lim_line hz, PZ.ok q3 js3 rfl⟩
          · exact q3.elim
        | _ => exact q3.elim
      | some ts =>
        rw [ht] at q3
        dsimp only at q3
        have rx0 := rx
        obtain ⟨a, vs, rfl, sq, rs⟩ := asT_ok ht rx
        refine .inl (.inr ⟨a, vs, rfl, hK ▸ sq, fun hw => ?_, fun hw p np => ?_⟩)
        · rw [← rs.length] at hw
          rw [if_pos hw] at q3
          exact PZ.ok q3 js3 rx0
        · rw [← rs.length] at hw
          rw [if_neg hw] at q3
          exact PZ.new q3 js3 np ⟨p, _, rfl, js3.fresh np, upd_same, (cut_ok rs lo' hi').mono .refl (keep_new np)⟩
end
end Sh

set_option Elab.async false
set_option linter.all false
set_option maxRecDepth 100000
set_option maxHeartbeats 4000000
namespace Sh
open PySem PySem.Spec PyProof.Rows L2
/-! ### dict(pairs), dict(d), keys ints, texts, tuples of them -/
section
variable {prog : Program} {w : World} {A : Around} {E : Value → Shared → Prop}
theorem tk_move {P : Program} {w : World} {h h' : Heap} {ks : List Key} {a : Addr} (x : (tupleKind (mixKind P w)).is h ks a) (k : ∀ o, h.get? a = some o → h'.get? a = some o) : (tupleKind (mixKind P w)).is h' ks a := by
  obtain ⟨o, items, n, h1, h2, h3, h4⟩ := x
  exact ⟨o, items, n, k _ h1, h2, h3, h4⟩
theorem dh_move {P : Program} {w : World} {h h' : Heap} {S : Addr} {xs : List (List Key × Addr × Value)} (x : h.DictOfH (tupleKind (mixKind P w)) S xs) (k : ∀ o, h.get? S = some o → h'.get? S = some o) (k2 : ∀ q ∈ xs, ∀ o, h.get? q.2.1 = some o → h'.get? q.2.1 = some o) : h'.DictOfH (tupleKind (mixKind P w)) S xs := by
  obtain ⟨o, es, ep, h1, h2, h3, h4, h5, h6⟩ := x
  exact ⟨o, es, ep, k _ h1, h2, h3, h4, fun q hq => tk_move (h5 q hq) (k2 q hq), h6⟩
theorem stored_mem {κ : Type} [DecidableEq κ] {xs : List (κ × Addr × Value)} {k : κ} {a : Addr} {v : Value} {q : κ × Addr × Value} (h : q ∈ storedH xs k a v) : q.2.1 = a ∨ ∃ p ∈ xs, p.2.1 = q.2.1 := by
  unfold storedH at h
  split at h
  · obtain ⟨p, hp, rfl⟩ := List.mem_map.mp h
    refine .inr ⟨p, hp, ?_⟩
    unfold putAt
    split <;> rfl
  · rcases List.mem_append.mp h with h | h
    · exact .inr ⟨q, h, rfl⟩
    · have : q = (k, a, v) := by simpa using h
      subst this
      exact .inl rfl
theorem stored_len {κ : Type} [DecidableEq κ] (xs : List (κ × Addr × Value)) (k : κ) (a : Addr) (v : Value) : (storedH xs k a v).length ≤ xs.length + 1 := by
  unfold storedH
  split
  · rw [List.length_map]; omega
  · rw [List.length_append]; simp
def mergedH {κ : Type} [DecidableEq κ] (xs more : List (κ × Addr × Value)) : List (κ × Addr × Value) := more.foldl (fun acc q => storedH acc q.1 q.2.1 q.2.2) xs
theorem upd_loopT {R : Result → Shared → Prop} {S I l : Addr} {items : Array Value} {res : Value} (hu : A.in1.units < cLine) (hh : A.handled = none) (hlI : l ≠ I) (hSI : S ≠ I) (hSl : S ≠ l) :
    ∀ (rest : List (List Key × Addr × Value)) (i : Nat) (acc : List (List Key × Addr × Value)) (ix : Int) (t : Tok) (s : Shared), items.size = i + rest.length → acc.length + rest.length ≤ sizeLine →
      (∀ (j : Nat) (q : List Key × Addr × Value), rest[j]? = some q → ∃ b : Addr, items[i + j]? = some (.ref b) ∧ b ≠ S ∧ b ≠ I ∧ IsTup s.heap b #[.ref q.2.1, q.2.2] ∧ q.2.1 ≠ S ∧ q.2.1 ≠ I ∧ (tupleKind (mixKind prog w)).is s.heap q.1 q.2.1) →
      (∀ q ∈ acc, q.2.1 ≠ I ∧ q.2.1 ≠ S) →
      s.heap.IsListIter I l i → s.heap.IsList l items → s.heap.DictOfH (tupleKind (mixKind prog w)) S acc →
      (∀ h' tk, h'.DictOfH (tupleKind (mixKind prog w)) S (mergedH acc rest) → (∀ b o, b ≠ S → b ≠ I → s.heap.get? b = some o → h'.get? b = some o) → R (.ok (.ret res)) { s with heap := h', toks := tk }) →
      codeAny (model prog w) A (.builtin "dict.update.loop" ⟨[.ref S, .ref I, .int ix t, res], []⟩) R s
  | [], i, acc, ix, t, s, hsz, hln, ht, hac, hit, hl, hm, hR => by
    refine codeAny_builtin ud_entry ?_
    rw [Around.under_plainId ud_plain _]
    show wpAny _ A.in1 (pyNext (.ref I) >>= _) _ _ s
    refine wpAny_bind (wpAny_pyNext_list_end (A := A.in1) hh hit hl (by first | exact Array.getElem?_eq_none (Nat.le_of_eq hsz) | (simp at hsz; simp; omega)) fun h' he => ?_)
    show wpAny _ A.in1 (Builtin.Dict.addKeywords S [] >>= _) _ _ _
    refine wpAny_bind (wpAny_pure (wpAny_pure ?_))
    exact hR h' s.toks (dh_move hm (fun o e => he S o hSI e) fun q hq o e => he _ o (hac q hq).1 e) fun b o _ hb e => he b o hb e
  | q :: rest, i, acc, ix, t, s, hsz, hln, ht, hac, hit, hl, hm, hR => by
    obtain ⟨b, hb, hbS, hbI, htup, hkS, hkI, hk⟩ := ht 0 q rfl
    rw [List.length_cons] at hsz hln
    refine codeAny_builtin ud_entry ?_
    rw [Around.under_plainId ud_plain _]
    show wpAny _ A.in1 (pyNext (.ref I) >>= _) _ _ s
    refine wpAny_bind (wpAny_pyNext_list_item (x := .ref b) hit hl (by simpa using hb) fun h1 hit1 hs1 => ?_)
    have ht1 : IsTup h1 b #[.ref q.2.1, q.2.2] := htup.extBut hs1.extBut hbI
    have hl1 : h1.IsList l items := hl.extBut hs1.extBut hlI
    have hm1 : h1.DictOfH (tupleKind (mixKind prog w)) S acc := dh_move hm (fun o e => hs1.extBut S o hSI e) fun p hp o e => hs1.extBut _ o (hac p hp).1 e
    have hk1 : (tupleKind (mixKind prog w)).is h1 q.1 q.2.1 := tk_move hk fun o e => hs1.extBut _ o hkI e
    obtain ⟨o, ho, hc, n, hd⟩ := id ht1
    show wpAny _ A.in1 (holding [Value.ref b] _ >>= _) _ _ _
    refine wpAny_bind (wpAny_holding ?_)
    refine wpAny_bind (wpAny_tryCatch ?_)
    unfold Builtin.Dict.pairItems
    refine wpAny_bind (wpAny_typeOf (T := "tuple") ⟨o, ho, hc⟩ ?_)
    rw [if_pos (by first | decide | rfl | simp)]
    refine wpAny_bind (wpAny_seqItems ho hd (wpAny_pure ?_))
    show wpAny _ A.in1 (holding [.ref q.2.1, q.2.2] (dictSet S (.ref q.2.1) q.2.2)) _ _ _
    refine wpAny_holding (wpAny_dictSet_heap (hsz := by omega) hu hk1 hm1 fun h2 hm2 hs2 => ?_)
    refine wpAny_pure ⟨plainId_quiet ud_plain _, upd_loopT (items := items) hu hh hlI hSI hSl rest (i + 1) (storedH acc q.1 q.2.1 q.2.2) (ix + 1) 0 _ (show items.size = i + 1 + rest.length by omega) ?_ (fun j q' e => ?_) (fun p hp => ?_) ?_ ?_ hm2 fun h' tk hd' k => ?_⟩
    · have z := stored_len acc q.1 q.2.1 q.2.2
      omega
    · obtain ⟨b', hb', hbS', hbI', htup', hkS', hkI', hk'⟩ := ht (j + 1) q' (by simpa using e)
      refine ⟨b', ?_, hbS', hbI', (htup'.extBut hs1.extBut hbI').extBut hs2.extBut hbS', hkS', hkI', tk_move hk' fun o e => hs2.extBut _ o hkS' (hs1.extBut _ o hkI' e)⟩
      rw [show i + 1 + j = i + (j + 1) by omega]
      exact hb'
    · rcases stored_mem hp with e | ⟨p', hp', e⟩
      · rw [e]; exact ⟨hkI, hkS⟩
      · rw [← e]; exact hac p' hp'
    · exact hit1.at fun o' e => hs2.extBut I o' (Ne.symm hSI) e
    · exact hl1.extBut hs2.extBut (Ne.symm hSl)
    · exact hR h' tk hd' fun c oc h3 h4 e => k c oc h3 h4 (hs2.extBut c oc h3 (hs1.extBut c oc h4 e))
/-- dict(l) of a list of pairs whose keys are tuples -/
theorem call_dict_pairsT {s : Shared} {l : Addr} {ol : Obj} {items : Array Value} {n : Nat} {prs : List (List Key × Addr × Value)} {Q : Value → Shared → Prop} (hu : A.in1.in1.units < cLine) (hh : A.handled = none) (hl : s.heap.get? l = some ol) (hc : ol.cls = .type "list") (hd : ol.dict = none)
    (hdat : ol.data = .seq items n) (hsz : items.size = prs.length) (hln : prs.length ≤ sizeLine)
    (ht : ∀ (j : Nat) (q : List Key × Addr × Value), prs[j]? = some q → ∃ b : Addr, items[j]? = some (.ref b) ∧ IsTup s.heap b #[.ref q.2.1, q.2.2] ∧ (tupleKind (mixKind prog w)).is s.heap q.1 q.2.1)
    (h : ∀ h' tk, h'.DictOfH (tupleKind (mixKind prog w)) s.heap.objs.size (mergedH [] prs) → (∀ b o, s.heap.get? b = some o → h'.get? b = some o) → Q (.ref s.heap.objs.size) { s with heap := h', toks := tk }) :
    wpAny (model prog w) A (call (.type "dict") [.ref l]) Q E s := by
  refine callType_codes (Q₁ := fun obj s₁ => obj = .ref s.heap.objs.size ∧ s₁ = { s with heap := s.heap.push { cls := .type "dict", data := .dict #[] } }) PySem.F.kt_called_dict (PySem.F.kt_typeCall_dict_1 _) PySem.F.entry_dict_init (kt_code_dict_new _ ⟨rfl, rfl⟩) ?_
  rintro obj s₁ ⟨rfl, rfl⟩
  have hnew0 : (s.heap.push { cls := .type "dict", data := .dict #[] }).DictOf (mixKind prog w) s.heap.objs.size [] := Heap.DictOf.new s.heap
  have hnew : (s.heap.push { cls := .type "dict", data := .dict #[] }).DictOfH (tupleKind (mixKind prog w)) s.heap.objs.size [] := ⟨_, #[], 0, Heap.get?_push_size _ rfl, ⟨rfl, rfl, rfl⟩, rfl, rfl, (fun _ h => nomatch h), List.nodup_nil⟩
  have k0 : ∀ b o, s.heap.get? b = some o → (s.heap.push { cls := .type "dict", data := .dict #[] }).get? b = some o := fun b o e => Heap.get?_push_of_some _ e
  refine ⟨hnew0.typeIs, PySem.F.args_dict_init_2 _ _, ?_⟩
  unfold Builtin.«dict.__init__»
  refine wpAny_bind ?_
  unfold Builtin.Dict.selfAndRest
  refine wpAny_bind (wpAny_notOrdered_dict hnew0.typeIs ?_)
  show wpAny _ _ (pure (s.heap.objs.size, [Value.ref l])) _ _ _
  refine wpAny_pure ?_
  show wpAny _ _ (Builtin.Dict.updateFrom "dict.__init__" s.heap.objs.size (.ref l) [] .none) _ _ _
  unfold Builtin.Dict.updateFrom
  refine wpAny_bind (wpAny_typeOf (T := "list") ⟨ol, k0 _ _ hl, hc⟩ ?_)
  rw [if_pos (by first | decide | rfl | simp)]
  refine wpAny_bind (miss_list (k0 _ _ hl) hc hdat hd hh fun h1 tk1 hk1 => ?_)
  rw [if_pos (show (none : Option Value).isNone = true from rfl)]
  refine wpAny_bind (wpAny_rule ?_)
  have hl1 : h1.IsList l items := ⟨ol, hk1 _ _ (k0 _ _ hl), hc, n, hdat⟩
  have hS1 : s.heap.objs.size < h1.objs.size := by
    have e : (s.heap.push { cls := .type "dict", data := .dict #[] }).get? s.heap.objs.size = some { cls := .type "dict", data := .dict #[] } := Heap.get?_push_size _ rfl
    exact Heap.lt_size (hk1 _ _ e)
  refine wpAny_bind (wpAny_pyIter_list hl1 ?_)
  have k2 : ∀ b o, h1.get? b = some o → (h1.push { cls := .type "list_iterator", data := .fields #[.ref l, .int 0 0] }).get? b = some o := fun b o e => Heap.get?_push_of_some _ e
  have hlt : l < s.heap.objs.size := Heap.lt_size hl
  have key := upd_loopT (prog := prog) (w := w) (A := A.in1) (R := wants (fun r s₂ => r = .none ∧ Q (.ref s.heap.objs.size) s₂) E) (S := s.heap.objs.size) (I := h1.objs.size) (l := l) (items := items) (res := Value.none) hu hh
    (Nat.ne_of_lt (Nat.lt_trans hlt hS1)) (Nat.ne_of_lt hS1) (Nat.ne_of_gt hlt) prs 0 [] 0 0
    { s with heap := h1.push { cls := .type "list_iterator", data := .fields #[.ref l, .int 0 0] }, toks := tk1 } (by rw [hsz, Nat.zero_add]) (by rw [List.length_nil, Nat.zero_add]; exact hln)
    (fun j q e => by
      obtain ⟨b, e1, e2, e3⟩ := ht j q e
      have hb : b < s.heap.objs.size := e2.lt
      obtain ⟨o3, _, _, e4, _⟩ := id e3
      have hk : q.2.1 < s.heap.objs.size := Heap.lt_size e4
      exact ⟨b, by rw [Nat.zero_add]; exact e1, Nat.ne_of_lt hb, Nat.ne_of_lt (Nat.lt_trans hb hS1), e2.keeps fun c o z => k2 _ _ (hk1 _ _ (k0 _ _ z)), Nat.ne_of_lt hk, Nat.ne_of_lt (Nat.lt_trans hk hS1), tk_move e3 fun o z => k2 _ _ (hk1 _ _ (k0 _ _ z))⟩)
    (fun _ h => nomatch h)
    ⟨_, Heap.get?_push_size _ rfl, rfl, rfl⟩ (hl1.at fun o e => k2 _ _ e) (dh_move hnew (fun o e => k2 _ _ (hk1 _ _ e)) fun _ h => nomatch h)
    (fun h' tk hd' k => ⟨rfl, h h' tk hd' fun b o e => k b o (Nat.ne_of_lt (Heap.lt_size e)) (Nat.ne_of_lt (Nat.lt_trans (Heap.lt_size e) hS1)) (k2 _ _ (hk1 _ _ (k0 _ _ e)))⟩)
  first
    | exact wpAny_pure ⟨plainId_quiet ud_plain _, key⟩
    | exact wpAny_bind (wpAny_pure (wpAny_pure ⟨plainId_quiet ud_plain _, key⟩))
end
section
variable {X : Cx}
def mergeT (acc : List (List Key × V)) (more : List (List Key × Addr × V)) : List (List Key × V) := more.foldl (fun acc q => putK acc q.1 q.2.2) acc
theorem pairs_ofT {pins : List (Addr × Obj)} {σ : L2.St} {H : Hp} {s : Shared} (I : Inv X pins σ H s) : ∀ {ps : List Addr} {kvs : List (List Key × Addr × V)}, Paired (fun p q => SqT X.K H p [.ref q.2.1, q.2.2] ∧ H q.2.1 = some (.tup (q.1.map kV))) ps kvs →
    ∃ prs : List (List Key × Addr × Value), prs.length = ps.length ∧ (∀ acc accH, L2.KT H acc accH → L2.KT H (mergeT acc kvs) (mergedH accH prs)) ∧ ∀ (j : Nat) (q : List Key × Addr × Value), prs[j]? = some q → ∃ b : Addr, ps[j]? = some b ∧ IsTup s.heap b #[.ref q.2.1, q.2.2] ∧ (tupleKind (mixKind X.prog X.w)).is s.heap q.1 q.2.1
  | _, _, .nil => ⟨[], rfl, fun _ _ h => h, fun j q e => by simp at e⟩
  | _, _, .cons (a := p) (b := kv) h t => by
    obtain ⟨prs, hl, hm, hp⟩ := pairs_ofT I t
    obtain ⟨h1, h2⟩ := h
    obtain ⟨its, rv, ht, _⟩ := I.tuple h1
    obtain ⟨u, y, ei, ru, ry⟩ := vals2 rv
    subst ei
    cases ru
    refine ⟨(kv.1, kv.2.1, y) :: prs, by rw [List.length_cons, List.length_cons, hl], fun acc accH ha => hm _ _ (ha.put kv.1 h2 ry), fun j q e => ?_⟩
    cases j with
    | zero =>
      have e' : (kv.1, kv.2.1, y) = q := Option.some.inj e
      subst e'
      exact ⟨p, rfl, ht, key_of I.hok h2⟩
    | succ j =>
      obtain ⟨b, e1, e2, e3⟩ := hp j q (by simpa using e)
      exact ⟨b, by simpa using e1, e2, e3⟩
theorem mergeT_len : ∀ (more : List (List Key × Addr × V)) (acc : List (List Key × V)), (mergeT acc more).length ≤ acc.length + more.length
  | [], acc => Nat.le_refl _
  | q :: more, acc => by
    have h1 := mergeT_len more (putK acc q.1 q.2.2)
    have h2 := length_putK acc q.1 q.2.2
    show (mergeT (putK acc q.1 q.2.2) more).length ≤ _
    rw [List.length_cons]
    omega
theorem paired_len {α β : Type} {F : α → β → Prop} {l : List α} {l2 : List β} (h : Paired F l l2) : l.length = l2.length := by
  induction h with
  | nil => rfl
  | cons _ _ ih => rw [List.length_cons, List.length_cons, ih]
theorem call_dictPT (hcalm : X.calm = true) (hu : X.A.units + 3 < cLine) : CallR X (.type "dict") (fun xs H Q => ∃ (a : Addr) (ps : List Addr) (kvs : List (List Key × Addr × V)), xs = [.ref a] ∧ SqL X.K H a (ps.map V.ref) ∧ Paired (fun p q => SqT X.K H p [.ref q.2.1, q.2.2] ∧ H q.2.1 = some (.tup (q.1.map kV))) ps kvs ∧
    ∀ p, H p = none → Q (.ref p) (upd H p (.dT (mergeT [] kvs)))) := by
  intro pins s σ H xs us Q I r q
  obtain ⟨a, ps, kvs, ex, hq, hp, q⟩ := q
  subst ex
  obtain ⟨u, eu, rx⟩ := vals1 r
  subst eu
  cases rx
  obtain ⟨its, rv, pl, hz⟩ := I.list hq
  have ei := refs_at rv
  subst ei
  rw [List.length_map] at hz
  obtain ⟨prs, hl, hm0, hpr⟩ := pairs_ofT I hp
  have rel := hm0 [] [] .nil
  obtain ⟨o, n, ho, hc, hd, hdat⟩ := pl
  have hu2 : X.A.in1.in1.units < cLine := by
    have : X.A.in1.in1.units = X.A.units + 2 := rfl
    omega
  refine call_dict_pairsT (prs := prs) hu2 (I.ok.hd hcalm) ho hc hd hdat (by simp [hl]) (by rw [hl]; exact hz) (fun j q' e => ?_) fun h' tk hd' k => ?_
  · obtain ⟨b, e1, e2, e3⟩ := hpr j q' e
    exact ⟨b, by simp [e1], e2, e3⟩
  · have hm : (s.heap.objs.size == sysModules) = false := beq_eq_false_iff_ne.mpr (Nat.ne_of_gt I.big)
    have hlen : (mergeT [] kvs).length ≤ sizeLine := by
      refine Nat.le_trans (mergeT_len kvs []) ?_
      rw [List.length_nil, Nat.zero_add, ← paired_len hp]
      exact hz
    have fresh : H s.heap.objs.size = none := I.hok.fresh (Nat.le_refl _)
    obtain ⟨o, es, ep, h1, h2, h3, h4, h5, h6⟩ := hd'
    exact ⟨.ref s.heap.objs.size, upd H s.heap.objs.size (.dT (mergeT [] kvs)), I.laid (t' := tk) k (Nat.le_refl _) (show ObjOk X.prog X.w _ _ _ (.dT (mergeT [] kvs)) from ⟨hlen, hm, mergedH [] prs, rel.keeps (fun b ys e => by rw [upd_ne (ne_of_none e fresh)]; exact e), o, es, ep, h1, h2, h3, h4, h6⟩), rfl, q _ fresh⟩
end
/-! by trees -/
/-- a list's pairs -/
def pairsOf : List T → Option (List (T × T))
  | [] => some []
  | t :: ts => match asT t, pairsOf ts with
    | some [a, b], some r => some ((a, b) :: r)
    | _, _ => none
def keyed {κ : Type} (f : T → Option κ) : List (T × T) → Option (List (κ × T))
  | [] => some []
  | p :: ps => match f p.1, keyed f ps with
    | some k, some r => some ((k, p.2) :: r)
    | _, _ => none
def mergeR {κ : Type} [DecidableEq κ] (acc : List κ × List T) (more : List (κ × T)) : List κ × List T := more.foldl (fun acc q => kput acc.1 acc.2 q.1 q.2) acc
def dictK (s : Sto) (x : T) : Option (List Key × List T) := match asL s x with
  | some ts => match pairsOf ts with
    | some ps => match keyed key ps with | some kvs => some (mergeR ([], []) kvs) | none => none
    | none => none
  | none => asDK s x
def dictT (s : Sto) (x : T) : Option (List (List Key) × List T) := match asL s x with
  | some ts => match pairsOf ts with
    | some ps => match keyed keyT ps with | some kvs => some (mergeR ([], []) kvs) | none => none
    | none => none
  | none => none
def hDictK : List T → Sto → Z T := fun ts s => match ts with | [x] => (match dictK s x with | some r => .ok (.dK r.1 r.2) s | none => .bad) | _ => .bad
def hDictKc : List T → Sto → Z T := fun ts s => match ts with | [x] => (match dictK s x with | some r => if purs r.2 = true then .ok (.cell s.length) (s ++ [(false, .dK r.1 r.2)]) else .bad | none => .bad) | _ => .bad
def hDictT : List T → Sto → Z T := fun ts s => match ts with | [x] => (match dictT s x with | some r => .ok (.dT r.1 r.2) s | none => .bad) | _ => .bad
def hDictTc : List T → Sto → Z T := fun ts s => match ts with | [x] => (match dictT s x with | some r => if purs r.2 = true then .ok (.cell s.length) (s ++ [(false, .dT r.1 r.2)]) else .bad | none => .bad) | _ => .bad
section
variable {E : RE} {W : XK} {m m' : Ma} {H H' : Hp} {st s s' : Sto} {X : Cx} {t : T} {v : V} {xs : List T}
/-- a list of pairs: where the pairs stand -/
theorem pairs_ok : ∀ {ts : List T} {ps : List (T × T)} {vs : List V}, pairsOf ts = some ps → Rs E m H ts vs → ∃ (as : List Addr) (qs : List (V × V)), vs = as.map V.ref ∧ Paired (fun a q => SqT E.K H a [q.1, q.2]) as qs ∧ Paired (fun p q => R E m H p.1 q.1 ∧ R E m H p.2 q.2) ps qs
  | [], _, _, h, r => by cases h; cases (show _ = [] from r); exact ⟨[], [], rfl, .nil, .nil⟩
  | t :: ts, ps, vs, h, ⟨v, w, ev, r1, r2⟩ => by
    subst ev
    unfold pairsOf at h
    split at h
    · rename_i a b r ht hr
      cases h
      obtain ⟨as, qs, e, p1, p2⟩ := pairs_ok hr r2
      obtain ⟨z, us, rfl, sq, ⟨x, _, eu, ra, y, _, eu2, rb, e3⟩⟩ := asT_ok ht r1
      subst eu; subst eu2
      cases (show _ = [] from e3)
      exact ⟨z :: as, (x, y) :: qs, by rw [e]; rfl, .cons sq p1, .cons ⟨ra, rb⟩ p2⟩
    · cases h
theorem mergeK_ok : ∀ {ps : List (T × T)} {qs : List (V × V)} {kvs : List (Key × T)} {acc : List Key × List T} {ws : List V}, keyed key ps = some kvs → Paired (fun p q => R E m H p.1 q.1 ∧ R E m H p.2 q.2) ps qs → acc.1.length = ws.length → Rs E m H acc.2 ws →
    ∃ (ks : List (Key × V)) (us : List V), Paired (fun (k : Key × V) (q : V × V) => kV k.1 = q.1 ∧ k.2 = q.2) ks qs ∧ mergeK (acc.1.zip ws) ks = (mergeR acc kvs).1.zip us ∧ (mergeR acc kvs).1.length = us.length ∧ Rs E m H (mergeR acc kvs).2 us
  | [], _, _, acc, ws, h, .nil, hl, r => by cases h; exact ⟨[], ws, .nil, rfl, hl, r⟩
  | p :: ps, _, kvs, acc, ws, h, .cons (b := q) ⟨r1, r2⟩ t, hl, r => by
    unfold keyed at h
    split at h
    · rename_i k rest hk hr
      cases h
      obtain ⟨ws2, e1, e2, e3⟩ := kput_ok (k := k) hl r r2
      obtain ⟨ks, us, p1, p2, p3, p4⟩ := mergeK_ok (acc := kput acc.1 acc.2 k p.2) hr t e2 e3
      refine ⟨(k, q.2) :: ks, us, .cons ⟨(key_ok hk r1).symm, rfl⟩ p1, ?_, p3, p4⟩
      show mergeK (putK (acc.1.zip ws) k q.2) ks = _
      rw [e1]
      exact p2
    · cases h
theorem mergeT_ok : ∀ {ps : List (T × T)} {qs : List (V × V)} {kvs : List (List Key × T)} {acc : List (List Key) × List T} {ws : List V}, keyed keyT ps = some kvs → Paired (fun p q => R E m H p.1 q.1 ∧ R E m H p.2 q.2) ps qs → acc.1.length = ws.length → Rs E m H acc.2 ws →
    ∃ (ks : List (List Key × Addr × V)) (us : List V), Paired (fun (k : List Key × Addr × V) (q : V × V) => V.ref k.2.1 = q.1 ∧ k.2.2 = q.2 ∧ H k.2.1 = some (.tup (k.1.map kV))) ks qs ∧ mergeT (acc.1.zip ws) ks = (mergeR acc kvs).1.zip us ∧ (mergeR acc kvs).1.length = us.length ∧ Rs E m H (mergeR acc kvs).2 us
  | [], _, _, acc, ws, h, .nil, hl, r => by cases h; exact ⟨[], ws, .nil, rfl, hl, r⟩
  | p :: ps, _, kvs, acc, ws, h, .cons (b := q) ⟨r1, r2⟩ t, hl, r => by
    unfold keyed at h
    split at h
    · rename_i k rest hk hr
      cases h
      obtain ⟨ws2, e1, e2, e3⟩ := kput_ok (k := k) hl r r2
      obtain ⟨ks, us, p1, p2, p3, p4⟩ := mergeT_ok (acc := kput acc.1 acc.2 k p.2) hr t e2 e3
      obtain ⟨b, eb, hb⟩ := keyT_ok hk r1
      refine ⟨(k, b, q.2) :: ks, us, .cons ⟨eb.symm, rfl, hb⟩ p1, ?_, p3, p4⟩
      show mergeT (putK (acc.1.zip ws) k q.2) ks = _
      rw [e1]
      exact p2
    · cases h
theorem paired_mid {α β γ : Type} {F : α → β → Prop} {G : γ → β → Prop} {Hh : α → γ → Prop} (w : ∀ a b c, F a b → G c b → Hh a c) : ∀ {as : List α} {bs : List β} {cs : List γ}, Paired F as bs → Paired G cs bs → Paired Hh as cs
  | _, _, _, .nil, .nil => .nil
  | _, _, _, .cons h t, .cons h2 t2 => .cons (w _ _ _ h h2) (paired_mid w t t2)
theorem d_dictK (hK : X.K = E.K) (hc : X.calm = true) {pins : List (Addr × Obj)} {sh : Shared} {σ : L2.St} {us : List Value} {Q : VK} (I : Inv X pins σ H sh) (r : Vals [v] us) (js : JS E m s H) (rv : R E m H t v) {rr : List Key × List T} (h : dictK s t = some rr)
    (q : ∀ p ws, H p = none → rr.1.length = ws.length → Rs E m H rr.2 ws → Q (.ref p) (upd H p (.dK (rr.1.zip ws)))) : wpAny (model X.prog X.w) X.A (call (.type "dict") us) (EP X pins σ Q) X.xe sh := by
  unfold dictK at h
  split at h
  · rename_i ts hl
    split at h
    case h_2 => cases h
    rename_i ps hps
    split at h
    case h_2 => cases h
    rename_i kvs hk
    cases h
    obtain ⟨a, vs, rfl, sq, rs⟩ := asL_ok hl js rv
    obtain ⟨as, qs, rfl, p1, p2⟩ := pairs_ok hps rs
    obtain ⟨ks, ws, p3, p4, p5, p6⟩ := mergeK_ok (acc := ([], [])) (ws := []) hk p2 rfl rfl
    refine call_dictP hc pins sh σ H _ us Q I r ⟨a, as, ks, rfl, hK ▸ sq, paired_mid (fun a b c h1 h2 => ?_) p1 p3, fun p np => ?_⟩
    · rw [h2.1, h2.2, hK]; exact h1
    · rw [show mergeK [] ks = _ from p4]
      exact q p ws np p5 p6
  · obtain ⟨a, vs, rfl, hr, hl, rs⟩ := asDK_ok h js rv
    exact call_dictD pins sh σ H _ us Q I r ⟨a, _, rfl, hr, fun p np => q p vs np hl rs⟩
theorem d_dictT (hK : X.K = E.K) (hc : X.calm = true) (hu : X.A.units + 3 < cLine) {pins : List (Addr × Obj)} {sh : Shared} {σ : L2.St} {us : List Value} {Q : VK} (I : Inv X pins σ H sh) (r : Vals [v] us) (js : JS E m s H) (rv : R E m H t v) {rr : List (List Key) × List T} (h : dictT s t = some rr)
    (q : ∀ p ws, H p = none → rr.1.length = ws.length → Rs E m H rr.2 ws → Q (.ref p) (upd H p (.dT (rr.1.zip ws)))) : wpAny (model X.prog X.w) X.A (call (.type "dict") us) (EP X pins σ Q) X.xe sh := by
  unfold dictT at h
  split at h
  · rename_i ts hl
    split at h
    case h_2 => cases h
    rename_i ps hps
    split at h
    case h_2 => cases h
    rename_i kvs hk
    cases h
    obtain ⟨a, vs, rfl, sq, rs⟩ := asL_ok hl js rv
    obtain ⟨as, qs, rfl, p1, p2⟩ := pairs_ok hps rs
    obtain ⟨ks, ws, p3, p4, p5, p6⟩ := mergeT_ok (acc := ([], [])) (ws := []) hk p2 rfl rfl
    refine call_dictPT hc hu pins sh σ H _ us Q I r ⟨a, as, ks, rfl, hK ▸ sq, paired_mid (fun a b c h1 h2 => ⟨by rw [h2.1, h2.2.1, hK]; exact h1, h2.2.2⟩) p1 p3, fun p np => ?_⟩
    · rw [show mergeT [] ks = _ from p4]
      exact q p ws np p5 p6
  · cases h
theorem c_dictK (hK : X.K = E.K) (hc : X.calm = true) : CallR X (.type "dict") (rFc E W hDictK) := by
  intro pins sh σ H xs us Q I r h
  obtain ⟨as, st, m, js, ra, q⟩ := h
  unfold hDictK at q
  split at q
  case h_2 => exact q.elim
  rename_i x
  obtain ⟨v, rfl, rv⟩ := vals_one rfl ra
  split at q
  case h_2 => exact q.elim
  rename_i rr hd
  exact d_dictK hK hc I r js rv hd fun p ws np hl rs => PZ.new q js np ⟨p, ws, rfl, js.fresh np, .inl upd_same, hl, rs.mono .refl (keep_new np)⟩
theorem c_dictKc (hK : X.K = E.K) (hc : X.calm = true) : CallR X (.type "dict") (rFc E W hDictKc) := by
  intro pins sh σ H xs us Q I r h
  obtain ⟨as, st, m, js, ra, q⟩ := h
  unfold hDictKc at q
  split at q
  case h_2 => exact q.elim
  rename_i x
  obtain ⟨v, rfl, rv⟩ := vals_one rfl ra
  split at q
  case h_2 => exact q.elim
  rename_i rr hd
  split at q
  case isFalse => exact q.elim
  rename_i hp
  exact d_dictK hK hc I r js rv hd fun p ws np hl rs => PZ.newc q js np ⟨ws, rfl, hl, rs⟩ hp (cell_new js)
theorem c_dictT (hK : X.K = E.K) (hc : X.calm = true) (hu : X.A.units + 65 < cLine) : CallR X (.type "dict") (rFc E W hDictT) := by
  intro pins sh σ H xs us Q I r h
  obtain ⟨as, st, m, js, ra, q⟩ := h
  unfold hDictT at q
  split at q
  case h_2 => exact q.elim
  rename_i x
  obtain ⟨v, rfl, rv⟩ := vals_one rfl ra
  split at q
  case h_2 => exact q.elim
  rename_i rr hd
  exact d_dictT hK hc (by omega) I r js rv hd fun p ws np hl rs => PZ.new q js np ⟨p, ws, rfl, js.fresh np, .inl upd_same, hl, rs.mono .refl (keep_new np)⟩
theorem c_dictTc (hK : X.K = E.K) (hc : X.calm = true) (hu : X.A.units + 65 < cLine) : CallR X (.type "dict") (rFc E W hDictTc) := by
  intro pins sh σ H xs us Q I r h
  obtain ⟨as, st, m, js, ra, q⟩ := h
  unfold hDictTc at q
  split at q
  case h_2 => exact q.elim
  rename_i x
  obtain ⟨v, rfl, rv⟩ := vals_one rfl ra
  split at q
  case h_2 => exact q.elim
  rename_i rr hd
  split at q
  case isFalse => exact q.elim
  rename_i hp
  exact d_dictT hK hc (by omega) I r js rv hd fun p ws np hl rs => PZ.newc q js np ⟨ws, rfl, hl, rs⟩ hp (cell_new js)
end
end Sh

set_option Elab.async false
set_option linter.all false
set_option maxRecDepth 100000
set_option maxHeartbeats 4000000
namespace Sh
open PySem PySem.Spec PyProof.Rows L2
/-! ### a def that hands back a list or dict that its caller may change -/
def truncC (n : Nat) : Z T → Z T
  | .ok t s => match t with
    | .cell i => if n ≤ i then (match s[i]? with | some (false, o) => .ok (.cell n) (s.take n ++ [(false, o)]) | _ => .bad) else .bad
    | _ => .bad
  | .exc c x s => if purs x = true then .exc c x (s.take n) else .bad
  | .bad => .bad
def defFC (n N : Nat) (body : Fs) : List T → Sto → Z T := fun as st => if as.length = n then truncC st.length (runB N body as st) else .bad
section
variable {E : RE} {W : XK} {m m' m2 : Ma} {H H' : Hp} {st s s' : Sto} {X : Cx}
mutual
/-- what holds no cell, beside fewer cells -/
theorem R.sub (hs : ∀ a, a ∈ m2.ad → a ∈ m.ad) : ∀ {t : T} {v : V}, pur t = true → R E m H t v → R E m2 H t v
  | .non, _, _, h => h
  | .bl _, _, _, h => h
  | .int _, _, _, h => h
  | .str _, _, _, h => h
  | .tup xs, v, p, ⟨a, vs, ev, na, h1, hr⟩ => ⟨a, vs, ev, ⟨fun z => na.1 (hs a z), na.2⟩, h1, Rs.sub hs p hr⟩
  | .tupK xs, v, p, ⟨a, vs, ev, h1, hr⟩ => ⟨a, vs, ev, h1, Rs.sub hs p hr⟩
  | .lst xs, v, p, ⟨a, vs, ev, na, h1, hr⟩ => ⟨a, vs, ev, ⟨fun z => na.1 (hs a z), na.2⟩, h1, Rs.sub hs p hr⟩
  | .scr xs, v, p, ⟨a, vs, ev, h1, hr⟩ => ⟨a, vs, ev, h1.elim (fun z => .inl ⟨⟨fun y => z.1.1 (hs a y), z.1.2⟩, z.2⟩) .inr, Rs.sub hs p hr⟩
  | .dK ks xs, v, p, ⟨a, vs, ev, na, h1, hk, hr⟩ => ⟨a, vs, ev, ⟨fun z => na.1 (hs a z), na.2⟩, h1, hk, Rs.sub hs p hr⟩
  | .dT ks xs, v, p, ⟨a, vs, ev, na, h1, hk, hr⟩ => ⟨a, vs, ev, ⟨fun z => na.1 (hs a z), na.2⟩, h1, hk, Rs.sub hs p hr⟩
  | .ins c xs, v, p, ⟨a, dx, vs, ev, na, h1, hk, hr⟩ => ⟨a, dx, vs, ev, ⟨fun z => na.1 (hs a z), na.2⟩, h1, hk, Rs.sub hs p hr⟩
  | .cell i, v, p, h => by cases p
theorem Rs.sub (hs : ∀ a, a ∈ m2.ad → a ∈ m.ad) : ∀ {ts : List T} {vs : List V}, purs ts = true → Rs E m H ts vs → Rs E m2 H ts vs
  | [], _, _, h => h
  | x :: xs, vs, p, ⟨v, r, ev, h1, h2⟩ => by
    unfold purs at p
    rw [Bool.and_eq_true] at p
    exact ⟨v, r, ev, R.sub hs p.1 h1, Rs.sub hs p.2 h2⟩
end
theorem CO.sub (hs : ∀ a, a ∈ m2.ad → a ∈ m.ad) {o : MO} {u : HO} (p : o.pur = true) (h : CO E m H o u) : CO E m2 H o u := by
  cases o with
  | lst xs => obtain ⟨vs, h1, h2⟩ := h; exact ⟨vs, h1, h2.sub hs p⟩
  | dK ks xs => obtain ⟨vs, h1, h0, h2⟩ := h; exact ⟨vs, h1, h0, h2.sub hs p⟩
  | dT ks xs => obtain ⟨vs, h1, h0, h2⟩ := h; exact ⟨vs, h1, h0, h2.sub hs p⟩
  | ins c ns xs => obtain ⟨dx, vs, h1, h0, h2⟩ := h; exact ⟨dx, vs, h1, h0, h2.sub hs p⟩
/-- the first n cells and one more -/
theorem JS.pick (js : JS E m s H) {n i : Nat} {a : Addr} {o : MO} {u : HO} (hn : n ≤ i) (hm : m[i]? = some (a, none)) (hs : s[i]? = some (false, o)) (co : CO E m H o u) (ha : H a = some u) (na : a ∉ Ma.ad (m.take n)) : JS E (m.take n ++ [(a, none)]) (s.take n ++ [(false, o)]) H := by
  have hin : i < m.length := (List.getElem?_eq_some_iff.mp hm).1
  have lm : (m.take n).length = n := by rw [List.length_take]; omega
  have ls : (s.take n).length = n := by rw [List.length_take, ← js.len]; omega
  have sub : ∀ b, b ∈ Ma.ad (m.take n ++ [(a, none)]) → b ∈ m.ad := fun b hb => by
    unfold Ma.ad at hb ⊢
    rw [List.map_append, List.mem_append] at hb
    rcases hb with hb | hb
    · rw [List.map_take] at hb
      exact List.mem_of_mem_take hb
    · have : b = a := by simpa using hb
      subst this
      exact List.mem_map.mpr ⟨_, List.mem_of_getElem? hm, rfl⟩
  have jt := js.take n
  refine ⟨by rw [List.length_append, List.length_append, lm, ls]; rfl, ?_, fun j b x hj => ?_, fun b hb => js.dis b (sub b hb), js.exs, fun j b x hj => ?_⟩
  · unfold Ma.ad at na ⊢
    rw [List.map_append, List.nodup_append]
    refine ⟨jt.nod, by simp, fun b hb c hc => ?_⟩
    have : c = a := by simpa using hc
    subst this
    rintro rfl
    exact na hb
  · by_cases hl : j < n
    · rw [List.getElem?_append_left (by rw [ls]; exact hl)] at hj
      exact jt.pu j b x hj
    · rw [List.getElem?_append_right (by rw [ls]; omega), ls] at hj
      have : j - n = 0 := by
        have := (List.getElem?_eq_some_iff.mp hj).1
        rw [List.length_singleton] at this
        omega
      rw [this] at hj
      cases hj
      exact js.pu i _ _ hs
  · by_cases hl : j < n
    · rw [List.getElem?_append_left (by rw [ls]; exact hl), List.getElem?_take, if_pos hl] at hj
      obtain ⟨b', k', y, h1, h2, h3⟩ := js.at_ j b x hj
      exact ⟨b', k', y, by rw [List.getElem?_append_left (by rw [lm]; exact hl), List.getElem?_take, if_pos hl]; exact h1, h2.sub sub (js.pu j b x hj), h3⟩
    · rw [List.getElem?_append_right (by rw [ls]; omega), ls] at hj
      have e0 : j - n = 0 := by
        have := (List.getElem?_eq_some_iff.mp hj).1
        rw [List.length_singleton] at this
        omega
      rw [e0] at hj
      cases hj
      exact ⟨a, none, u, by rw [List.getElem?_append_right (by rw [lm]; omega), lm, e0]; rfl, co.sub sub (js.pu i _ _ hs), ha⟩
theorem body_okC {N : Nat} {b : Fs} {as : List T} {Q : VK} (hm : m.length = st.length) (hp : PZ E W (R E) m H Q (truncC st.length (runB N b as st))) : PZ E W (rFl E) m H (toD { nx := fun _ H' => Q .non H', rt := Q }) (b (startL N as) st) := by
  unfold runB at hp
  cases hb : b (startL N as) st with
  | bad => rw [hb] at hp; exact hp.elim
  | exc c x s =>
    rw [hb] at hp
    intro cls d H' m' e k js xr
    simp only [Z.then, truncC] at hp
    by_cases hx : purs x = true
    · rw [if_pos hx] at hp
      have jt := js.take m.length
      have xt := xr.take m.length hx
      rw [take_ext e, hm] at jt
      rw [take_ext e] at xt
      exact hp cls d H' m .refl k jt xt
    · rw [if_neg hx] at hp; exact hp.elim
  | ok fl s =>
    rw [hb] at hp
    intro fv H' m' e k js r
    cases fl with
    | rt t => cases fv with
      | rt v =>
        simp only [Z.then] at hp
        cases t with
        | cell i =>
          simp only [truncC] at hp
          split at hp
          case isFalse => exact hp.elim
          rename_i hi
          split at hp
          case h_2 => exact hp.elim
          rename_i o ho
          obtain ⟨a, kk, u, rfl, hma, co, lk⟩ := cell_of js r ho
          cases kk with
          | some _ => exact lk.elim
          | none =>
            obtain ⟨new, em, hn⟩ := e
            have hi' : m.length ≤ i := by rw [hm]; exact hi
            have hnew : (a, none) ∈ new := by
              rw [em, List.getElem?_append_right hi'] at hma
              exact List.mem_of_getElem? hma
            have ha := hn _ hnew
            have tk : m'.take st.length = m := by rw [em, ← hm]; simp
            have jp := js.pick hi hma ho co lk (by rw [tk]; exact ha.2)
            rw [tk] at jp
            refine hp (.ref a) H' _ ⟨[(a, none)], rfl, fun p hp' => ?_⟩ k jp ⟨a, ad_get.mpr ⟨none, ?_⟩, rfl⟩
            · have : p = (a, none) := by simpa using hp'
              subst this
              exact ha
            · rw [List.getElem?_append_right (by rw [hm]; exact Nat.le_refl _), hm]
              simp
        | _ => exact hp.elim
      | _ => exact r.elim
    | nx ρ => exact hp.elim
    | bk ρ => exact hp.elim
    | ct ρ => exact hp.elim
end
section
variable {P : Program} {w : World} {K : PySem.W.Frag} {mg : Str → Option Value} {base : Heap} {ca : Nat → Addr} {fn xn : Nat → List Str}
theorem okFC {x qual : Str} {stt : Stmt} {f : Addr} {fd : FuncData} {N ps : List Str} {k : Nat} {b : Fs} (F : Fun K x qual stt f fd) (S : FnScope N ps (defScope stt)) (hps : ps.length ≤ N.length)
    (hbody : ∀ (l : List Addr) (cdv : Value) (A : Around) (outer : List Env) (s : Shared) (H : Hp) (W : XK), Room k (A.deeper (envOfC qual (defScope stt) s.heap.objs.size f cdv)) →
      PSs (cxOf (L2.CX P w) P w K mg base N qual (defScope stt) f cdv A outer s H W) (defBody stt) (tS ⟨K, ca, fn, xn, l⟩ W b)) :
    FnOk P w K mg base (L2.CX P w) (k + 1) f fd ps (spF K ca fn xn ps.length (defFC ps.length N.length b)) := by
  refine F.okX S (fun vs H Q E ⟨_, _, _, _, h, _⟩ => h) fun cdv A outer s H vs Q W hr ⟨l, as, st, m, hl, js, rs, hp⟩ => ⟨_, hbody l cdv A outer s H W hr, ?_⟩
  unfold defFC at hp
  by_cases ha : as.length = ps.length
  · rw [if_pos ha] at hp
    exact ⟨startL N.length as, st, m, (start_lc rs (by omega)).j js, body_okC js.len hp⟩
  · rw [if_neg ha] at hp; exact hp.elim
theorem calC_of {x : Str} {stt : Stmt} {N ps : List Str} {k n : Nat} {b : Fs} (D : Def K mg x stt) (S : FnScope N ps (defScope stt)) (hn : ps.length = n) (hps : ps.length ≤ N.length)
    (hb : ∀ (kV doc pm : Value) (an : Option Addr) (cdv ct : Value) (us : List Value), us.length = ps.length → bindArgs (PySem.W.fnOf x x (defArgs stt) (defBody stt) (defScope stt) Value.none kV doc pm an cdv ct) { pos := us } = pure (ps.zip us))
    (hbody : ∀ (f : Addr) (l : List Addr) (cdv : Value) (A : Around) (outer : List Env) (s : Shared) (H : Hp) (W : XK), Room k (A.deeper (envOfC x (defScope stt) s.heap.objs.size f cdv)) →
      PSs (cxOf (L2.CX P w) P w K mg base N x (defScope stt) f cdv A outer s H W) (defBody stt) (tS ⟨K, ca, fn, xn, l⟩ W b)) :
    Cal P w K mg base ca fn xn x (k + 1) n (defFC n N.length b) := by
  obtain ⟨f, fd, F, hm⟩ := D
  subst hn
  exact ⟨⟨f, fd, ps, okFC F S hps (hbody f), hm, F.kp, F.binds hb⟩, fun as st h => if_neg h⟩
end
end Sh

set_option Elab.async false
set_option linter.all false
set_option maxRecDepth 100000
set_option maxHeartbeats 4000000
namespace Sh
open PySem PySem.Spec PyProof.Rows L2
/-! ### enumerate of a tuple -/
theorem meets_enumT (t : Addr) (items : Array Value) :
    Meets (Builtin.«enumerate.__new__» ⟨[.type "enumerate", .ref t], []⟩) (fun _ R s => s.heap.IsTuple t items ∧
      R (.ok (.ret (.ref (s.heap.push { cls := .type "tuple_iterator", data := .fields #[.ref t, .int 0 0] }).objs.size)))
        { s with heap := (s.heap.push { cls := .type "tuple_iterator", data := .fields #[.ref t, .int 0 0] }).push { cls := .type "enumerate", data := .fields #[.none, .bool false, .ref s.heap.objs.size, rawInt 0, .none, .none] } }) :=
  .of_wp fun prog w A R s h => by
    obtain ⟨hp, g, d, tk, os⟩ := s; obtain ⟨h1, h⟩ := h
    have hsub := sub_enumerate
    have q1 : ∀ {A' : Around} {E : Value → Shared → Prop} {Q : Value → Shared → Prop}, Q (.ref hp.objs.size) ⟨hp.push { cls := .type "tuple_iterator", data := .fields #[.ref t, .int 0 0] }, g, d, tk, os⟩ → wpAny (model prog w) A' (pyIter (.ref t)) Q E ⟨hp, g, d, tk, os⟩ :=
      fun q => (begins_tuple t items).iter prog w _ _ ⟨hp, g, d, tk, os⟩ _ h1 q
    wp_walk using q1
    refine wpAny_stack_any fun st => wpAny_pure ?_
    split
    · rename_i c _ _ _ _ _
      cases (c == Value.type "enumerate")
      · wp_walk using q1
        exact ⟨_, rfl, h⟩
      · wp_walk using q1
        exact ⟨_, rfl, h⟩
    · wp_walk using q1
      exact ⟨_, rfl, h⟩
section
variable {prog : Program} {w : World} {A : Around} {E : Value → Shared → Prop} {s : Shared}
theorem call_enumT {t : Addr} {items : Array Value} {Q : Value → Shared → Prop} (h1 : s.heap.IsTuple t items)
    (h : ∀ h', IsEnum h' (s.heap.objs.size + 1) s.heap.objs.size 0 .none → h'.IsTupleIter s.heap.objs.size t 0 → h'.objs.size = s.heap.objs.size + 2 →
      (∀ b o, s.heap.get? b = some o → h'.get? b = some o) → Q (.ref (s.heap.objs.size + 1)) { s with heap := h' }) :
    wpAny (model prog w) A (call (.type "enumerate") [.ref t]) Q E s := by
  refine callType_new F.called_enumerate (by decide) (F.typeCall_enumerate_1 _) (F.newCall_enumerate_1 _) (fun obj => F.args_object_init_2 obj _) F.entry_enumerate_new
    (meets_enumT t items) ⟨h1, ?_⟩
  have hz : (s.heap.push { cls := .type "tuple_iterator", data := .fields #[.ref t, .int 0 0] }).objs.size = s.heap.objs.size + 1 := Heap.size_push ..
  show _ ∧ _
  rw [hz]
  have he : IsEnum ((s.heap.push { cls := .type "tuple_iterator", data := .fields #[.ref t, .int 0 0] }).push { cls := .type "enumerate", data := .fields #[.none, .bool false, .ref s.heap.objs.size, rawInt 0, .none, .none] }) (s.heap.objs.size + 1) s.heap.objs.size 0 .none := by
    have := Heap.get?_push_size (s.heap.push { cls := .type "tuple_iterator", data := .fields #[.ref t, .int 0 0] }) (o := { cls := .type "enumerate", data := .fields #[.none, .bool false, .ref s.heap.objs.size, rawInt 0, .none, .none] }) rfl
    rw [hz] at this; exact this
  refine ⟨⟨_, he, rfl⟩, h _ he ⟨_, Heap.get?_push_of_some _ (Heap.get?_push_size _ rfl), rfl, rfl⟩ (by rw [Heap.size_push, hz]) fun b o x => Heap.get?_push_of_some _ (Heap.get?_push_of_some _ x)⟩
end
/-- the tuple at a as it stands at each turn, each item in a new pair -/
def IteT (K : PySem.W.Frag) (a : Addr) : It :=
  ⟨fun i H => ∃ (xs : List V) (x : V), SqT K H a xs ∧ xs[i]? = some x, fun i H v H' => ∃ T x, v = .ref T ∧ H T = none ∧ H' = upd H T (.tup [.int (i : Nat), x]) ∧ ∀ xs, SqT K H a xs → xs[i]? = some x, fun i H => ∃ xs : List V, SqT K H a xs ∧ xs.length ≤ i⟩
theorem turn_enumT {P : Program} {w : World} {K : PySem.W.Frag} {elts : List Expr} {kk : Nat} {tpos : Pos} (a e it : Addr) :
    Turn P w K (.Tuple elts kk tpos) (IteT K a) [e, it] e (fun i h => (∃ old, IsEnum h e it ((i : Nat) : Int) old) ∧ h.IsTupleIter it a i ∧ e ≠ it ∧ a ≠ it ∧ a ≠ e) where
  mem := by simp
  obj := fun i h st b hb => by
    obtain ⟨⟨old, he⟩, ⟨o, ho, hc, hd⟩, _⟩ := st
    have e' : b = e ∨ b = it := by simpa using hb
    rcases e' with z | z
    · rw [z]; exact ⟨_, he, fun v q => nomatch q⟩
    · rw [z]; exact ⟨o, ho, fun v q => by rw [hd] at q; cases q⟩
  keep := fun i h h' st k => let ⟨⟨old, he⟩, hi, hne⟩ := st; ⟨⟨old, k e (by simp) _ he⟩, hi.at fun o q => k it (by simp) o q, hne⟩
  item := by
    intro X hP hw hK hc i pins s σ H E I hf st hg
    subst hP hw hK
    obtain ⟨⟨old, he⟩, hit, hne, hai, hae⟩ := st
    obtain ⟨xs, x, hq, hx⟩ := hg
    obtain ⟨its, rv, p, hz⟩ := I.tuple hq
    obtain ⟨u, hu, ru⟩ := rv.get hx
    have hel : e < s.heap.objs.size := Heap.lt_size he
    have hil : it < s.heap.objs.size := by obtain ⟨_, q, _⟩ := hit; exact Heap.lt_size q
    have D := Draws.tuple (prog := X.prog) (w := X.w) (A := X.A.in1) (I.ok.hd hc) it a hai its.toArray
    have hi : i < its.toArray.size := by
      rw [List.size_toArray]
      exact (List.getElem?_eq_some_iff.mp hu).1
    refine wpAny_pyNext_enum_itemC D he ⟨hit, p⟩ hi hne (by simp [hne, hae.symm]) fun x' h' tk hP ho hst hT hsz hk => ?_
    have ex : x' = u := by
      have : its.toArray[i]? = some u := by simpa using hu
      rw [this] at hP
      exact (Option.some.inj hP).symm
    subst ex
    refine ⟨_, rfl, wpAny_letOwnedTupleGo_enum (s := { s with heap := h', toks := tk + 1 }) ho fun h'' he' sb => ?_⟩
    have hT2 : h''.get? s.heap.objs.size = some { cls := .type "tuple", data := .seq #[.int i tk, x'] } := (sb.2 _ (Nat.ne_of_gt hel)).trans hT
    have new : ObjOk X.prog X.w (upd H s.heap.objs.size (.tup [.int (i : Nat), x])) h'' s.heap.objs.size (.tup [.int (i : Nat), x]) :=
      ⟨by show 2 ≤ sizeLine; decide, [.int i tk, x'], .cons ⟨_, rfl⟩ (.cons ru .nil), ⟨_, hT2, rfl, _, rfl⟩⟩
    have I1 : Inv X pins σ (upd H s.heap.objs.size (.tup [.int (i : Nat), x])) { s with heap := h'', toks := tk + 1 } :=
      I.turnedNew (ch := [e, it]) (fun b ob hb q => (sb.2 b (fun z => hb (by simp [z]))).trans (hk b ob (fun z => hb (by simp [z])) (fun z => hb (by simp [z])) q)) hf (Nat.le_refl _) new
    refine ⟨.ref s.heap.objs.size, _, I1, rfl, ⟨_, x, rfl, I.hok.fresh (Nat.le_refl _), rfl, fun ys hy => by rw [I.tuple_inj hy hq]; exact hx⟩, ⟨⟨x', ?_⟩, hst.1.at fun o q => (sb.2 it (Ne.symm hne)).trans q, hne, hai, hae⟩, fun b hb => ?_⟩
    · have e1 : ((i + 1 : Nat) : Int) = (i : Int) + 1 := by omega
      rw [e1]; exact he'
    · have hb' : b < s.heap.objs.size := by
        have e' : b = e ∨ b = it := by simpa using hb
        rcases e' with z | z
        · rw [z]; exact hel
        · rw [z]; exact hil
      rw [upd_ne (Nat.ne_of_lt hb')]
      exact (hf b hb).1
  done := by
    intro X hP hw hK hc i pins s σ H E I hf st hg
    subst hP hw hK
    obtain ⟨⟨old, he⟩, hit, hne, hai, hae⟩ := st
    obtain ⟨xs, hq, hx⟩ := hg
    obtain ⟨its, rv, p, hz⟩ := I.tuple hq
    obtain ⟨f0, f1, f2, f3, f4, f5⟩ := hf it (by simp)
    have hl := rv.length
    unfold pyNext
    have hT : s.TypeIs (.ref e) "enumerate" := ⟨_, he, rfl⟩
    refine wpAny_bind (wpAny_attempt (wpAny_callSpecial?_slot (name := Str.ofString "__next__") hT F.slot_enumerate_next
      (wpAny_call_entry F.slot_enumerate_next hT F.entry_enumerate_next ?_ (F.args_enumerate_next_1 _))))
    show wpAny _ _ (field (.ref e) 2 >>= _) _ _ _
    refine wpAny_bind (wpAny_field he rfl (x := .ref it) rfl ?_)
    refine wpAny_bind (wpAny_nextOf_tuple_end (show X.A.in1.in1.handled = none from I.ok.hd hc) hit p (by simp; omega) fun h' x he' hx' => ?_)
    obtain ⟨o, ho, hc'⟩ := hx'
    refine wpAny_bind (wpAny_isInstance (T := "StopIteration") (b := true) ⟨o, ho, hc'⟩ isSubtype_stop ?_)
    refine wpAny_pure ?_
    exact ⟨rfl, I.turned (t' := s.toks) (fun b o hb q => he' b o hb q) f0 f1 f3 f4 f5⟩
  self := fun A i s Q E st h => let ⟨⟨_, he⟩, _⟩ := st; wpAny_pyIter_enum he h
def iEnumTu (K : PySem.W.Frag) (ta : TA) : TI := fun σ H R => ta σ H fun vs H1 => ∃ a xs, vs = [.ref a] ∧ SqT K H1 a xs ∧ R (IteT K a) H1
theorem pi_enumT {X : Cx} {e : Expr} {ta : TA} {p pos tpos : Pos} {elts : List Expr} {kk : Nat} (hg : Gl X "enumerate") (hm : X.mg "enumerate" = none) (ha : PA X [e] ta) (hs : starEach [e] X.env = [(false, eval e X.env)] := by rfl) :
    PI X (.Tuple elts kk tpos) (.Call (.Name "enumerate" p) [e] [] pos) (iEnumTu X.K ta) := by
  refine ⟨fun pins s σ H R I h => ?_⟩
  refine Call_ (ld_blt I hg hm boot_enumerate (PyProof.Rows.callWith_type1 (thn (ha.run pos pins s σ H _ I h) fun us s1 ⟨vs, H1, I1, r1, q1⟩ => ?_) hs rfl))
  obtain ⟨a, xs, ex, hq, q⟩ := q1
  subst ex
  cases r1 with
  | cons r rr =>
    cases rr
    cases r
    obtain ⟨its, rv, p', hz⟩ := I1.tuple hq
    have hlt : a < s1.heap.objs.size := p'.lt
    refine call_enumT p' fun h' he hit hsz hk => wpAny_pyIter_enum he ?_
    have I2 : Inv X pins σ H1 { s1 with heap := h' } := I1.kept (t' := s1.toks) hk
    refine ⟨s1.heap.objs.size + 1, [s1.heap.objs.size + 1, s1.heap.objs.size], _, _, H1, rfl, I2, turn_enumT a (s1.heap.objs.size + 1) s1.heap.objs.size, ⟨⟨.none, he⟩, hit, Nat.succ_ne_self _, Nat.ne_of_lt hlt, Nat.ne_of_lt (Nat.lt_succ_of_lt hlt)⟩, fun b hb => ?_, q⟩
    have e' : b = s1.heap.objs.size + 1 ∨ b = s1.heap.objs.size := by simpa using hb
    have hle : s1.heap.objs.size ≤ b := by
      rcases e' with z | z
      · rw [z]; exact Nat.le_add_right _ _
      · rw [z]; exact Nat.le_refl _
    exact I1.fpOk hle (I1.hok.fresh hle)
theorem walk_enumT {K : PySem.W.Frag} {a : Addr} {xs : List V} : Walk (IteT K a) xs.length (fun H => SqT K H a xs) (YPair (fun i => some (.int (i : Nat))) (fun i => xs[i]?)) := by
  refine ⟨fun i _ hi q => ⟨xs, xs[i], q, by simp [hi]⟩, fun _ q => ⟨xs, q, Nat.le_refl _⟩, fun i H v H' _ q y => ?_⟩
  obtain ⟨T, x, h1, h2, h3, h4⟩ := y
  exact ⟨T, .int (i : Nat), x, h1, h2, h3, rfl, h4 xs q⟩
def iEnumFT (fs : Fa) : Fa := fun ρ st => (fs ρ st).then fun ts s => match ts with
  | [x] => match asT x with | some xs => .ok (enumT 0 xs) s | none => .bad
  | _ => .bad
section
variable {X : Cx} {E : RE} {W : XK} {m m' : Ma} {H H' : Hp} {st s s' : Sto} {pos p : Pos} {fs : Fa}
theorem asT_keep {t : T} {v : V} {xs : List T} (h : asT t = some xs) (r : R E m H t v) : ∃ a vs, v = .ref a ∧ SqT E.K H a vs ∧ Rs E m H xs vs ∧ ∀ m' H', Ext m m' H → Keep m H H' → SqT E.K H' a vs := by
  cases t with
  | tup ys =>
    cases h
    obtain ⟨a, vs, rfl, na, hs, hr⟩ := r
    exact ⟨a, vs, rfl, .of hs, hr, fun m' H' _ k => .of (k a _ (nf na.1) hs)⟩
  | tupK ys =>
    cases h
    obtain ⟨a, vs, rfl, hs, hr⟩ := r
    exact ⟨a, vs, rfl, .inr hs, hr, fun m' H' _ k => .inr hs⟩
  | _ => cases h
theorem i_enumT {e : Expr} {tpos : Pos} {elts : List Expr} {kk : Nat} (hK : X.K = E.K) (hm : X.mg "enumerate" = none) (ha : PA X [e] (tFs E W fs)) (hg : Gl X "enumerate" := by rfl) (hs : starEach [e] X.env = [(false, eval e X.env)] := by rfl) : PI X (.Tuple elts kk tpos) (.Call (.Name "enumerate" p) [e] [] pos) (tI E W (iEnumFT fs)) :=
  (pi_enumT hg hm ha hs).weak fun σ H Q ⟨ρ, st, m, j, hp⟩ => by
    refine ⟨ρ, st, m, j, PZ.imp (fun vs H1 z => ?_) (PZ.then (rel := Rs E) hp)⟩
    obtain ⟨ts, s1, m1, _, e1, k1, js1, r1, q1⟩ := z
    match ts, r1, q1 with
    | [x], r1, q1 =>
      obtain ⟨v, rfl, rv⟩ := vals_one rfl r1
      dsimp only at q1
      cases hx : asT x with
      | none => rw [hx] at q1; exact q1.elim
      | some xs =>
        rw [hx] at q1
        obtain ⟨a, vs, rfl, sq, rs, keep⟩ := asT_keep hx rv
        refine ⟨a, vs, rfl, hK ▸ sq, PZ.ok q1 js1 (Wk.pair (by rw [enumT_len, rs.length]; exact walk_enumT) (fun m' H' e k => hK ▸ keep m' H' e k) fun i t hi => ?_)⟩
        obtain ⟨y, h1, h2⟩ := enumT_at xs 0 i t hi
        obtain ⟨w, g1, g2⟩ := at_ok rs h1
        refine ⟨_, y, h2, fun v hv => ?_, fun v hv => ?_⟩
        · cases hv; rw [Nat.zero_add]; exact rfl
        · rw [g1] at hv; cases hv; exact g2
    | [], _, q1 => exact q1.elim
    | _ :: _ :: _, _, q1 => exact q1.elim
end
end Sh

set_option Elab.async false
set_option linter.all false
set_option maxRecDepth 100000
set_option maxHeartbeats 4000000
namespace Sh
open PySem PySem.Spec PyProof.Rows L2
/-! ### the end -/
def spEnd (K : PySem.W.Frag) : Sp := fun vs H Q _ => ∃ (a : Addr) (ns : List Int), vs = [.ref a] ∧ SqL K H a (ns.map V.int) ∧ ns.length ≤ 63 ∧ ∀ H', Q (.bl true) H'
section
variable {P : Program} {w : World} {K : PySem.W.Frag} {mg : Str → Option Value} {base : Heap} {ca : Nat → Addr} {fn xn : Nat → List Str}
theorem rs_ints {E : RE} {m : Ma} {H : Hp} : ∀ ns : List Int, Rs E m H (ns.map T.int) (ns.map V.int)
  | [] => rfl
  | n :: ns => ⟨.int n, _, rfl, rfl, rs_ints ns⟩
theorem end_of {F : List T → Sto → Z T} (hF : ∀ ns : List Int, ns.length ≤ 63 → ∃ s, F [.scr (ns.map T.int)] [] = .ok (.bl true) s) {vs : List V} {H : Hp} {Q : VK} {E : XK} (h : spEnd K vs H Q E) : spF K ca fn xn 1 F vs H Q E := by
  obtain ⟨a, ns, rfl, sq, hl, q⟩ := h
  obtain ⟨s, hs⟩ := hF ns hl
  have js : JS ⟨K, ca, fn, xn, []⟩ [] [] H := ⟨rfl, List.nodup_nil, fun i b o h => (by simp at h), (fun a ha => nomatch ha), (fun a ha => nomatch ha), fun i b o h => by simp at h⟩
  refine ⟨[], [.scr (ns.map T.int)], [], [], rfl, js, ⟨.ref a, [], rfl, ⟨a, ns.map V.int, rfl, ?_, rs_ints ns⟩, rfl⟩, ?_⟩
  · rcases sq with sq | sq
    · exact .inl ⟨⟨(fun z => nomatch z), (fun z => nomatch z)⟩, sq⟩
    · exact .inr sq
  · rw [hs]
    intro v H' m' _ _ _ r
    cases (show v = .bl true from r)
    exact q H'
theorem fnok_end {F : List T → Sto → Z T} {k : Nat} {f : Addr} {fd : FuncData} {ps : List Str} (hF : ∀ ns : List Int, ns.length ≤ 63 → ∃ s, F [.scr (ns.map T.int)] [] = .ok (.bl true) s) (G : FnOk P w K mg base (L2.CX P w) k f fd ps (spF K ca fn xn 1 F)) : FnOk P w K mg base (L2.CX P w) k f fd ps (spEnd K) :=
  G.imp fun _ _ _ _ h => end_of hF h
end
theorem cx_no {P : Program} {w : World} {H : Hp} {s : Shared} {e : Value} {s' : Shared} (h : L2.CX P w [] H s (fun _ _ _ => False) e s') : False := by
  obtain ⟨_, _, _, _, _, _, _, _, _, _, _, _, z⟩ := h
  exact z
theorem walk_end {l : PySem.W.OpenLaw} {q : Program} {loose : List Str} {XP : (Str → Option Value) → Heap → Prop} {YP : World → Heap → Prop} {d : DefRec} {K : Params → PySem.W.Frag} {x : Str} {k : Nat} (hn : l.most = some 63) (hdf : d.params.defaults = []) (hr : Room k callerA)
    (hY : ∀ (w : World) (h : Heap), YP w h → (K w.params).In h)
    (F : ∀ (w : World) (mg : Str → Option Value) (fa : Addr) (h : Heap), (K w.params).In h → h.Ns mainGlobals mg → mg d.name = some (.ref fa) →
      ∃ fd : FuncData, (∀ (s : Shared) (u : Value), BindsTo s fd ⟨[u], []⟩ [(x, u)]) ∧ ∀ base : Heap, (K w.params).In base → base.Ns mainGlobals mg → FnOk l.prog w (K w.params) mg base (L2.CX l.prog w) k fa fd [x] (spEnd (K w.params))) :
    PySem.W.WalkO q loose XP YP l.row.toRowW d [] (fun f vs => PySem.call f vs) :=
  L2.walk_of (n := 63) (k := k) (x := x) (CX := fun w => L2.CX l.prog w) (sp := fun w => spEnd (K w.params)) hn (by decide) hdf hr hY F (fun _ _ a ns hl _ hS => ⟨a, ns, rfl, hS, hl, fun _ => rfl⟩) fun _ _ _ _ _ z => cx_no z
/-! facts of the top, put together -/
section
variable {K : PySem.W.Frag} {h : Heap} {mg : Str → Option Value}
theorem def_mk {x : Str} {st : Stmt} {f : Addr} {oc : Value} {od an : Option Addr} {osl : Array (Option Value)} {kV doc pm cdv ct : Value} (X : K.In h) (G : h.Ns mainGlobals mg) (a : PySem.W.nsIn K mainGlobals x = some (some (.ref f)))
    (l : K.lookup f = some ⟨oc, od, .func (PySem.W.fnOf x x (defArgs st) (defBody st) (defScope st) .none kV doc pm an cdv ct), osl⟩) (c : PySem.W.codeIn K cdv x = true) (k : PySem.W.keepIn K (.ref f) = true) : Def K mg x st := ⟨f, _, fun_mk l c k, PySem.W.mg_of X G a⟩
theorem cls_mk {C : Addr} (pg : PySem.W.plainGet K C Str.empty = true) (hd : PySem.W.hasDictIn K C = true) (po : PySem.W.plainOver K C = true) (sa : PySem.W.findIn K (.ref C) "__setattr__" = some (some (.builtin "object.__setattr__"))) : Cls K C := ⟨pg, hd, po, sa⟩
theorem clsI_mk {C : Addr} (cl : Cls K C) (ha : PySem.W.findIn K (.ref C) "__class__" = some (some (.builtin "object.__class__"))) (hn : PySem.W.specialIn K (.builtin "object.__class__") "__get__" = some (some (.builtin "getset_descriptor.__get__"))) (ht : PySem.W.takesIn K (.builtin "object.__class__") = some true)
    (hm : PySem.W.mroIn K C (.type "object") = some true) : ClsI K C ∧ PySem.W.kitOne K (.ref C) (.ref C) = some true := ⟨⟨cl, ha, hn, ht, hm⟩, by unfold PySem.W.kitOne; rw [if_pos (by simp)]⟩
theorem mdef_mk {C : Addr} {x qual : Str} {st : Stmt} {f : Addr} {oc : Value} {od an : Option Addr} {osl : Array (Option Value)} {kV doc pm cdv ct : Value} (a : PySem.W.findIn K (.ref C) x = some (some (.ref f)))
    (l : K.lookup f = some ⟨oc, od, .func (PySem.W.fnOf x qual (defArgs st) (defBody st) (defScope st) .none kV doc pm an cdv ct), osl⟩) (c : PySem.W.codeIn K cdv qual = true) (k : PySem.W.keepIn K (.ref f) = true) (i : PySem.W.isFn K (.ref f) = true) (n : PySem.W.fnIn K f = true) : MDef K C x qual st := ⟨f, _, fun_mk l c k, a, i, n⟩
theorem pdef_mk {C p : Addr} {x qual : Str} {st : Stmt} {f : Addr} {oc : Value} {od an : Option Addr} {osl : Array (Option Value)} {kV doc pm cdv ct : Value} {rest : List Value} (a : PySem.W.findIn K (.ref C) x = some (some (.ref p))) (r : PySem.W.recIn K p "property" = some (.ref f :: rest))
    (l : K.lookup f = some ⟨oc, od, .func (PySem.W.fnOf x qual (defArgs st) (defBody st) (defScope st) .none kV doc pm an cdv ct), osl⟩) (c : PySem.W.codeIn K cdv qual = true) (k : PySem.W.keepIn K (.ref f) = true) (g : PySem.W.specialIn K (.ref p) "__get__" = some (some (.builtin "property.__get__"))) (t : PySem.W.takesIn K (.ref p) = some true) : PDef K C x qual st :=
  ⟨p, f, _, fun_mk l c k, ⟨a, g, t, rest, r⟩⟩
theorem idef_mk {C : Addr} {qual : Str} {st : Stmt} {f : Addr} {oc : Value} {od an : Option Addr} {osl : Array (Option Value)} {kV doc pm cdv ct : Value} (a : PySem.W.findIn K (.ref C) "__init__" = some (some (.ref f)))
    (l : K.lookup f = some ⟨oc, od, .func (PySem.W.fnOf "__init__" qual (defArgs st) (defBody st) (defScope st) .none kV doc pm an cdv ct), osl⟩) (c : PySem.W.codeIn K cdv qual = true) (k : PySem.W.keepIn K (.ref f) = true) (i : PySem.W.isFn K (.ref f) = true) (mk : PySem.W.makesIn K C = true) (kc : PySem.W.keepIn K (.ref C) = true) : IDef K C qual st := ⟨f, _, fun_mk l c k, ⟨mk, a, i, kc⟩⟩
theorem idefk_mk {C D : Addr} {qual kn : Str} {st : Stmt} {f : Addr} {oc : Value} {od an : Option Addr} {osl : Array (Option Value)} {doc pm cdv ct u : Value} {dv : V} (a : PySem.W.findIn K (.ref C) "__init__" = some (some (.ref f)))
    (l : K.lookup f = some ⟨oc, od, .func (PySem.W.fnOf "__init__" qual (defArgs st) (defBody st) (defScope st) .none (.ref D) doc pm an cdv ct), osl⟩) (c : PySem.W.codeIn K cdv qual = true) (n : PySem.W.nsIn K D kn = some (some u)) (r : RelV dv u) (i : PySem.W.isFn K (.ref f) = true) (mk : PySem.W.makesIn K C = true) (kc : PySem.W.keepIn K (.ref C) = true) : IDefK K C qual st kn dv :=
  ⟨f, _, ⟨⟨oc, od, D, doc, pm, an, cdv, ct, u, osl, rfl, l, c, n, r⟩⟩, ⟨mk, a, i, kc⟩⟩
end
end Sh

set_option Elab.async false
set_option linter.all false
set_option maxRecDepth 100000
set_option maxHeartbeats 4000000
namespace Sh
open PySem PySem.Spec PyProof.Rows L2
/-! ### for over a list that is a cell -/
def loopC (g : Tg) (b : Fs) (c : Nat) : Nat → Nat → Lo → Sto → Z Fl
  | 0, _, _, _ => .bad
  | n + 1, i, ρ, s => match s[c]? with
    | some (_, .lst xs) => match xs[i]? with
      | none => .ok (.nx ρ) s
      | some x => match g x ρ with
        | none => .bad
        | some ρ' => (b ρ' s).then fun fl s => match fl with
          | .nx ρ2 => loopC g b c n (i + 1) ρ2 s
          | .ct ρ2 => loopC g b c n (i + 1) ρ2 s
          | .bk ρ2 => .ok (.nx ρ2) s
          | .rt t => .ok (.rt t) s
    | _ => .bad
def sForA (f : Fx) (g : Tg) (b : Fs) : Fs := fun ρ st => (f ρ st).then fun t s => match t with
  | .cell c => loopC g b c lim 0 ρ s
  | .lst xs => loop g b xs ρ s
  | .scr xs => loop g b xs ρ s
  | _ => .bad
section
variable {E : RE} {W : XK} {m m' : Ma} {H H' : Hp} {st s s' : Sto} {X : Cx} {pos : Pos} {fe : Fx}
theorem cell_list {c : Nat} {v : V} (js : JS E m s H) (r : R E m H (.cell c) v) {b : Bool} {xs : List T} (q : s[c]? = some (b, .lst xs)) : ∃ a vs, v = .ref a ∧ SqL E.K H a vs ∧ Rs E m H xs vs := by
  obtain ⟨a, k, u, rfl, hm, ⟨vs, rfl, hr⟩, lk⟩ := cell_of js r q
  exact ⟨a, vs, rfl, .inl lk.rd, hr⟩
theorem forC_core {G : Tg} {sl : List Nat} {b : Fs} {D : Ends} {a : Addr} {c fuel : Nat} {ρ : Lo} {σ : L2.St} (r0 : R E m H (.cell c) (.ref a)) (j : J E m ρ s σ H) (q1 : PZ E W (rFl E) m H (toD D) (loopC G b c fuel 0 ρ s)) :
    ∃ W' : Nat → Nat → L2.St → Hp → Prop, (∃ mm, W' 0 mm σ H) ∧ ∀ i mm σ H, W' i mm σ H → ((Itl E.K a).stop i H ∧ D.nx σ H) ∨ ((Itl E.K a).go i H ∧ ∃ N : L2.St → Hp → Prop, (∀ σ' H', N σ' H' → ∃ m', m' < mm ∧ W' (i + 1) m' σ' H') ∧ ∀ x H', (Itl E.K a).yld i H x H' → tG E G sl x σ H' fun σ2 H2 => tS E W b { D with nx := N, ct := N, bk := D.nx } σ2 H2) := by
  refine ⟨fun i mm σ' H' => ∃ ρ' s' m', R E m' H' (.cell c) (.ref a) ∧ J E m' ρ' s' σ' H' ∧ PZ E W (rFl E) m' H' (toD D) (loopC G b c mm i ρ' s'), ⟨fuel, ρ, s, m, r0, j, q1⟩, ?_⟩
  rintro i mm σ' H' ⟨ρ', s', m', r, j2, q⟩
  cases mm with
  | zero => exact q.elim
  | succ n =>
    unfold loopC at q
    split at q
    case h_2 => exact q.elim
    rename_i lb xs hx
    obtain ⟨a', vs, ea, sq, rs⟩ := cell_list j2.sto r hx
    cases ea
    split at q
    · rename_i hn
      refine .inl ⟨⟨vs, sq, ?_⟩, PZ.ok (v := Fv.nx σ') q j2.sto j2.lc⟩
      rw [← rs.length]
      exact List.getElem?_eq_none_iff.mp hn
    · rename_i x hi
      obtain ⟨xv, hv, rx⟩ := at_ok rs hi
      split at q
      · exact q.elim
      rename_i ρ2 hz
      refine .inr ⟨⟨vs, xv, sq, hv⟩, fun σ2 H2 => ∃ ρ3 s3 m3, R E m3 H2 (.cell c) (.ref a) ∧ J E m3 ρ3 s3 σ2 H2 ∧ PZ E W (rFl E) m3 H2 (toD D) (loopC G b c n (i + 1) ρ3 s3), fun σ2 H2 h => ⟨n, Nat.lt_succ_self n, h⟩, ?_⟩
      rintro y H3 ⟨eH, ey⟩
      subst eH
      have := ey vs sq
      rw [hv] at this
      cases this
      refine ⟨x, ρ', ρ2, m', rx, j2.lc, hz, fun σ2 _ l2 => ⟨ρ2, s', m', l2.j j2.sto, PZ.imp (fun v H4 z => ?_) (PZ.then (rel := rFl E) q)⟩⟩
      obtain ⟨fl, s4, m4, _, e4, k4, js4, r4, q4⟩ := z
      have rc : R E m4 H4 (.cell c) (.ref a) := r.mono e4 k4
      cases fl with
      | nx ρ5 => cases v with
        | nx σ5 => exact ⟨ρ5, s4, m4, rc, Lc.j r4 js4, q4⟩
        | _ => exact r4.elim
      | ct ρ5 => cases v with
        | ct σ5 => exact ⟨ρ5, s4, m4, rc, Lc.j r4 js4, q4⟩
        | _ => exact r4.elim
      | bk ρ5 => cases v with
        | bk σ5 =>
          have z : toD D (Fv.nx σ5) H4 := PZ.ok q4 js4 r4
          exact z
        | _ => exact r4.elim
      | rt t => cases v with
        | rt u =>
          have z : toD D (Fv.rt u) H4 := PZ.ok q4 js4 r4
          exact z
        | _ => exact r4.elim
theorem s_forA {tg iter : Expr} {body : List Stmt} {G : Tg} {sl : List Nat} {b : Fs} (hp : PassesOwn (model X.prog X.w) X.A X.env X.xe) (hc : X.calm = true) (hK : X.K = E.K) (he : PE X iter (tF E W fe)) (hg : PG X tg (tG E G sl)) (hb : PSs X body (tS E W b))
    (hs : ∀ x, foldedSetIterable iter X.env x = pure x := by intro _; rfl) : PS X (.For tg iter body [] pos) (tS E W (sForA fe G b)) := (ps_for hp hc (pi_list he) hg hb hs).weak fun D σ H ⟨ρ, st, m, j, hp⟩ => by
  refine ⟨ρ, st, m, j, PZ.imp (fun v H1 z => ?_) (PZ.then (rel := R E) hp)⟩
  obtain ⟨x, s1, m1, _, e1, k1, js1, r1, q1⟩ := z
  have j1 := j.step e1 k1 js1
  cases x with
  | cell c =>
    dsimp only at q1
    have r0 := r1
    obtain ⟨a, _, rfl⟩ := r1
    have q0 := q1
    rw [show lim = 99999 + 1 from rfl] at q0
    unfold loopC at q0
    split at q0
    case h_2 => exact q0.elim
    rename_i lb xs hx
    obtain ⟨a', vs, ea, sq, rs⟩ := cell_list js1 r0 hx
    cases ea
    refine ⟨a, rfl, ⟨vs, hK ▸ sq⟩, ?_⟩
    rw [hK]
    exact forC_core r0 j1 q1
  | lst ts =>
    obtain ⟨a, vs, rfl, na, hs, hr⟩ := r1
    refine ⟨a, rfl, ⟨vs, .of hs⟩, ?_⟩
    exact for_core (Wk.yat (G := fun H => SqL X.K H a vs) (by rw [hr.length]; exact walk_list) (fun m' H' _ k => SqL.of (k a _ (nf na.1) hs)) hr) j1 q1
  | scr ts =>
    obtain ⟨a, vs, rfl, hs, hr⟩ := r1
    refine ⟨a, rfl, ⟨vs, hK ▸ hs.elim (fun z => .inl z.2) .inr⟩, ?_⟩
    exact for_core (Wk.yat (G := fun H => SqL X.K H a vs) (by rw [hr.length]; exact walk_list) (fun m' H' _ k => (hK ▸ hs.elim (fun z => .inl (k.rd z.1.1 z.2)) .inr)) hr) j1 q1
  | _ => exact q1.elim
end
end Sh

set_option Elab.async false
set_option linter.all false
set_option maxRecDepth 100000
set_option maxHeartbeats 4000000
namespace V
open PySem PySem.Spec PyProof.Rows L2 Sh
def top (i : Nat) : Stmt := PySem.Challenge.pw_forbidmoves_k02_whole_distances.main.body.getD i (.Pass ⟨0, 0, 0, 0⟩)
def fnX : Nat → List Str := fun n => match n with | 0 => ["_owner", "_targets", "_goal"] | 1 => ["_fields", "_start", "_prices"] | _ => []
def hEqO (fn : Nat → List Str) (c0 : Nat) (FF : List T → Sto → Z T) : T → T → Sto → Z T := fun a b s => match insOf fn c0 s b with | some _ => blZ (fun b => b) (hOwn2 fn c0 FF a b s) | none => .bad
theorem hu_of {k : Nat} {A : Around} (r : Room k A) : A.units + 65 < cLine := by have := r.un; omega
structure Tx (K : PySem.W.Frag) (mg : Str → Option Value) (ca : Nat → Addr) : Prop where
  n_abs : mg "abs" = none
  n_all : mg "all" = none
  n_any : mg "any" = none
  n_bool : mg "bool" = none
  n_dict : mg "dict" = none
  n_enumerate : mg "enumerate" = none
  n_int : mg "int" = none
  n_isinstance : mg "isinstance" = none
  n_len : mg "len" = none
  n_list : mg "list" = none
  n_range : mg "range" = none
  n_str : mg "str" = none
  n_sum : mg "sum" = none
  n_tuple : mg "tuple" = none
  c_HIGHEST_COST : ∃ t, mg "HIGHEST_COST" = some (.int 9 t)
  c_LONGEST_NAME : ∃ t, mg "LONGEST_NAME" = some (.int 8 t)
  c_MOST_FIELDS : ∃ t, mg "MOST_FIELDS" = some (.int 8 t)
  c_MOST_PRICES : ∃ t, mg "MOST_PRICES" = some (.int 6 t)
  d__law_draw : Def K mg "_law_draw" (top 36)
  d__law_cell_at : Def K mg "_law_cell_at" (top 37)
  d__law_digits : Def K mg "_law_digits" (top 38)
  d__law_pool : Def K mg "_law_pool" (top 40)
  d__law_take : Def K mg "_law_take" (top 39)
  d__law_drawn : Def K mg "_law_drawn" (top 41)
  d_is_number : Def K mg "is_number" (top 13)
  d_is_name : Def K mg "is_name" (top 12)
  d_are_different_names : Def K mg "are_different_names" (top 14)
  cl_0 : Cls K (ca 0)
  na_0__owner : NoAttr K (ca 0) "_owner"
  na_0__targets : NoAttr K (ca 0) "_targets"
  na_0__goal : NoAttr K (ca 0) "_goal"
  i_Field : IDef K (ca 0) "Field.__init__" (inClass (top 15) 0)
  ik_Field : IDefK K (ca 0) "Field.__init__" (inClass (top 15) 0) "goal" (.bl false)
  g_Field : mg "Field" = some (.ref (ca 0))
  d__law_field : Def K mg "_law_field" (top 42)
  ci_0 : ClsI K (ca 0) ∧ PySem.W.kitOne K (.ref (ca 0)) (.ref (ca 0)) = some true
  p_Field_targets : PDef K (ca 0) "targets" "Field.targets" (inClass (top 15) 2)
  d_is_field_within : Def K mg "is_field_within" (top 18)
  d_check_fields : Def K mg "check_fields" (top 17)
  d_is_pair_of_strings : Def K mg "is_pair_of_strings" (top 22)
  m_Field___contains__ : MDef K (ca 0) "__contains__" "Field.__contains__" (inClass (top 15) 4)
  d_is_move : Def K mg "is_move" (top 20)
  d_is_cost : Def K mg "is_cost" (top 21)
  d_are_prices : Def K mg "are_prices" (top 19)
  cl_1 : Cls K (ca 1)
  na_1__fields : NoAttr K (ca 1) "_fields"
  na_1__start : NoAttr K (ca 1) "_start"
  na_1__prices : NoAttr K (ca 1) "_prices"
  i_Board : IDef K (ca 1) "Board.__init__" (inClass (top 16) 0)
  g_Board : mg "Board" = some (.ref (ca 1))
  d__law_built : Def K mg "_law_built" (top 43)
  d__law_set : Def K mg "_law_set" (top 47)
  d__law_row : Def K mg "_law_row" (top 44)
  d__law_ways : Def K mg "_law_ways" (top 45)
  d__law_far : Def K mg "_law_far" (top 46)
  ci_1 : ClsI K (ca 1) ∧ PySem.W.kitOne K (.ref (ca 1)) (.ref (ca 1)) = some true
  d_check_board : Def K mg "check_board" (top 26)
  m_Board___contains__ : MDef K (ca 1) "__contains__" "Board.__contains__" (inClass (top 16) 6)
  p_Board_moves : PDef K (ca 1) "moves" "Board.moves" (inClass (top 16) 3)
  d_check_set : Def K mg "check_set" (top 27)
  p_Board_names : PDef K (ca 1) "names" "Board.names" (inClass (top 16) 1)
  m_Board___getitem__ : MDef K (ca 1) "__getitem__" "Board.__getitem__" (inClass (top 16) 4)
  d_steps_from : Def K mg "steps_from" (top 24)
  p_Field_goal : PDef K (ca 0) "goal" "Field.goal" (inClass (top 15) 3)
  p_Field_owner : PDef K (ca 0) "owner" "Field.owner" (inClass (top 15) 1)
  d_is_forced : Def K mg "is_forced" (top 33)
  d_is_won_by : Def K mg "is_won_by" (top 32)
  d_distances : Def K mg "distances" (top 31)
  p_Board_start : PDef K (ca 1) "start" "Board.start" (inClass (top 16) 2)
  d_is_winning : Def K mg "is_winning" (top 34)
  d__law_game_right : Def K mg "_law_game_right" (top 48)
  d_law : Def K mg "law" (top 49)
noncomputable section
variable {P : Program} {w : World} {K : PySem.W.Frag} {mg : Str → Option Value} {base : Heap} {ca : Nat → Addr} {xn : Nat → List Str}
abbrev s__law_draw : Stmt := top 36
def b__law_draw : Fs := (sSeq (sAsg (vA hTup (aCons (vC (.int 1000003)) (aCons (vC (.int 1000033)) (aCons (vC (.int 1000037)) (aCons (vC (.int 1000039)) (aCons (vC (.int 1000081)) (aCons (vC (.int 1000099)) (aCons (vC (.int 1000117)) (aCons (vC (.int 1000121)) (aCons (vC (.int 1000133)) (aCons (vC (.int 1000151)) (aCons (vC (.int 1000159)) (aCons (vC (.int 1000171)) (aCons (vC (.int 1000183)) (aCons (vC (.int 1000187)) (aCons (vC (.int 1000193)) (aCons (vC (.int 1000199)) aNil))))))))))))))))) (gN 3)) (sRet (v2 hMod (v2 hMod (v2 hAddF (v2 hMul (vVar 0) (vC (.int 48271))) (v2 hMul (vVar 1) (vC (.int 69621)))) (v2 hIx (vVar 3) (v2 hMod (vVar 1) (vC (.int 16))))) (vVar 2))))
theorem nd__law_draw : (["_law_cell", "_law_k", "_law_many", "_law_primes"] : List Str).Nodup := by decide +kernel
theorem sc__law_draw : FnScope (["_law_cell", "_law_k", "_law_many", "_law_primes"] : List Str) (["_law_cell", "_law_k", "_law_many"] : List Str) (defScope s__law_draw) := ⟨rfl, rfl, rfl, nd__law_draw, rfl, by decide +kernel, by decide +kernel⟩
theorem d__law_draw (T : Tx K mg ca) (l : List Addr) {f : Addr} {cdv : Value} {A : Around} {outer : List Env} {s : Shared} {H : Hp} {W : XK} (hr : Room 0 (A.deeper (envOfC "_law_draw" (defScope s__law_draw) s.heap.objs.size f cdv))) (hu65 : (A.deeper (envOfC "_law_draw" (defScope s__law_draw) s.heap.objs.size f cdv)).units + 65 < cLine) (hu64 : (A.deeper (envOfC "_law_draw" (defScope s__law_draw) s.heap.objs.size f cdv)).units + 64 < cLine) (nd : (["_law_cell", "_law_k", "_law_many", "_law_primes"] : List Str).Nodup) :
    PSs (cxOf (L2.CX P w) P w K mg base (["_law_cell", "_law_k", "_law_many", "_law_primes"] : List Str) "_law_draw" (defScope s__law_draw) f cdv A outer s H W) (defBody s__law_draw) (tS ⟨K, ca, fnX, xn, l⟩ W b__law_draw) :=
  (s_cons (s_set (i := 3) nd (x_tup (a_cons x_int (a_cons x_int (a_cons x_int (a_cons x_int (a_cons x_int (a_cons x_int (a_cons x_int (a_cons x_int (a_cons x_int (a_cons x_int (a_cons x_int (a_cons x_int (a_cons x_int (a_cons x_int (a_cons x_int (a_cons x_int a_nil)))))))))))))))))) (s_one (s_ret (x_bin (o_mod) (x_bin (o_mod) (x_bin (o_addF rfl) (x_bin (o_mul) (x_var (i := 0)) x_int) (x_bin (o_mul) (x_var (i := 1)) x_int)) (x_sub rfl hu65 (x_var (i := 3)) (x_bin (o_mod) (x_var (i := 1)) x_int))) (x_var (i := 2))))))
def F__law_draw : List T → Sto → Z T := defF fnX 3 4 b__law_draw
theorem ok__law_draw (T : Tx K mg ca) : Cal P w K mg base ca fnX xn "_law_draw" 1 3 F__law_draw :=
  cal_of (k := 0) (N := (["_law_cell", "_law_k", "_law_many", "_law_primes"] : List Str)) T.d__law_draw sc__law_draw rfl (by decide) (fun _ _ _ _ _ _ us hl => match us, hl with | [_, _, _], _ => rfl) fun f l cdv A outer s H W hr => by
    have hu65 := hu_of hr
    have hu64 := Nat.lt_of_succ_lt hu65
    have nd := nd__law_draw
    exact d__law_draw T l hr hu65 hu64 nd

abbrev s__law_cell_at : Stmt := top 37
def b__law_cell_at : Fs := (sSeq (sIf (bOf (v2 hLt (vVar 1) (vA hLen (aCons (vVar 0) aNil)))) (sRet (vA hAbs (aCons (v2 hIx (vVar 0) (vVar 1)) aNil))) sNext) (sRet (vA F__law_draw (aCons (v2 hAddF (vA hAbs (aCons (vA hSum (aCons (vVar 0) aNil)) aNil)) (v2 hMul (vC (.int 7919)) (vVar 1))) (aCons (vVar 1) (aCons (vC (.int 999983)) aNil))))))
theorem nd__law_cell_at : (["_law_script", "_law_k"] : List Str).Nodup := by decide +kernel
theorem sc__law_cell_at : FnScope (["_law_script", "_law_k"] : List Str) (["_law_script", "_law_k"] : List Str) (defScope s__law_cell_at) := ⟨rfl, rfl, rfl, nd__law_cell_at, rfl, by decide +kernel, by decide +kernel⟩
theorem d__law_cell_at (T : Tx K mg ca) (l : List Addr) {f : Addr} {cdv : Value} {A : Around} {outer : List Env} {s : Shared} {H : Hp} {W : XK} (hr : Room 1 (A.deeper (envOfC "_law_cell_at" (defScope s__law_cell_at) s.heap.objs.size f cdv))) (hu65 : (A.deeper (envOfC "_law_cell_at" (defScope s__law_cell_at) s.heap.objs.size f cdv)).units + 65 < cLine) (hu64 : (A.deeper (envOfC "_law_cell_at" (defScope s__law_cell_at) s.heap.objs.size f cdv)).units + 64 < cLine) (nd : (["_law_script", "_law_k"] : List Str).Nodup) :
    PSs (cxOf (L2.CX P w) P w K mg base (["_law_script", "_law_k"] : List Str) "_law_cell_at" (defScope s__law_cell_at) f cdv A outer s H W) (defBody s__law_cell_at) (tS ⟨K, ca, fnX, xn, l⟩ W b__law_cell_at) :=
  (s_cons (s_if (b_cmp (o_lt) (x_var (i := 1)) (x_blt (c_len rfl) T.n_len (by decide +kernel) (a_cons (x_var (i := 0)) a_nil))) (s_one (s_ret (x_blt c_abs T.n_abs (by decide +kernel) (a_cons (x_sub rfl hu65 (x_var (i := 0)) (x_var (i := 1))) a_nil)))) s_nil) (s_one (s_ret (x_callC (ok__law_draw T) rfl hr (by decide) (passX (takes_of rfl rfl rfl rfl)) (a_cons (x_bin (o_addF rfl) (x_blt c_abs T.n_abs (by decide +kernel) (a_cons (x_blt (c_sum rfl rfl) T.n_sum (by decide +kernel) (a_cons (x_var (i := 0)) a_nil)) a_nil)) (x_bin (o_mul) x_int (x_var (i := 1)))) (a_cons (x_var (i := 1)) (a_cons x_int a_nil)))))))
def F__law_cell_at : List T → Sto → Z T := defF fnX 2 2 b__law_cell_at
theorem ok__law_cell_at (T : Tx K mg ca) : Cal P w K mg base ca fnX xn "_law_cell_at" 2 2 F__law_cell_at :=
  cal_of (k := 1) (N := (["_law_script", "_law_k"] : List Str)) T.d__law_cell_at sc__law_cell_at rfl (by decide) (fun _ _ _ _ _ _ us hl => match us, hl with | [_, _], _ => rfl) fun f l cdv A outer s H W hr => by
    have hu65 := hu_of hr
    have hu64 := Nat.lt_of_succ_lt hu65
    have nd := nd__law_cell_at
    exact d__law_cell_at T l hr hu65 hu64 nd

abbrev s__law_digits : Stmt := top 38
def b__law_digits_1 : Fs := (sIf (bOf (v2 hGe (vVar 6) (v2 hPow (vC (.int 10)) (vC (.int 18))))) (sSeq (sExpr (vAppend (vVar 7) (v2 hMod (vVar 4) (vVar 3)))) (sAsg (v2 (or2 hDiv hDivW) (vVar 4) (vVar 3)) (gN 4))) (sSeq (sAsg (vA F__law_draw (aCons (v2 hMul (v2 hAddF (vVar 6) (v2 hMul (vC (.int 977)) (vVar 5))) (v2 hAddF (v2 hAddF (vVar 6) (v2 hMul (vC (.int 31)) (vVar 5))) (vC (.int 5)))) (aCons (v2 hAddF (v2 hMod (vVar 5) (vC (.int 9))) (vC (.int 1))) (aCons (vC (.int 999983)) aNil)))) (gN 8)) (sSeq (sAsg (vA F__law_draw (aCons (v2 hAddF (v2 hMul (v2 hAddF (vVar 6) (v2 hMul (vC (.int 31)) (vVar 5))) (v2 hAddF (vVar 6) (vC (.int 7)))) (v2 hMul (vC (.int 977)) (vVar 5))) (aCons (v2 hAddF (v2 hMod (vVar 5) (vC (.int 7))) (vC (.int 2))) (aCons (vC (.int 1000003)) aNil)))) (gN 9)) (sExpr (vAppend (vVar 7) (v2 hMod (v2 hAddF (v2 hMul (vVar 8) (vC (.int 1000003))) (vVar 9)) (vVar 3)))))))
def b__law_digits : Fs := (sSeq (sPar [6, 7] (aCons (vA F__law_cell_at (aCons (vVar 0) (aCons (vVar 1) aNil))) (aCons (vA hLstC aNil) aNil))) (sSeq (sAsg (v2 hSub (vVar 6) (v2 hPow (vC (.int 10)) (vC (.int 18)))) (gN 4)) (sSeq (sFor (iRange1 (aCons (vVar 2) aNil)) (gN 5) b__law_digits_1) (sRet (vVar 7)))))
theorem nd__law_digits : (["_law_script", "_law_at", "_law_many", "_law_base", "_law_left", "_law_turn", "_law_cell", "_law_found", "_law_blend", "_law_more"] : List Str).Nodup := by decide +kernel
theorem sc__law_digits : FnScope (["_law_script", "_law_at", "_law_many", "_law_base", "_law_left", "_law_turn", "_law_cell", "_law_found", "_law_blend", "_law_more"] : List Str) (["_law_script", "_law_at", "_law_many", "_law_base"] : List Str) (defScope s__law_digits) := ⟨rfl, rfl, rfl, nd__law_digits, rfl, by decide +kernel, by decide +kernel⟩
theorem d__law_digits (T : Tx K mg ca) (l : List Addr) {f : Addr} {cdv : Value} {A : Around} {outer : List Env} {s : Shared} {H : Hp} {W : XK} (hr : Room 2 (A.deeper (envOfC "_law_digits" (defScope s__law_digits) s.heap.objs.size f cdv))) (hu65 : (A.deeper (envOfC "_law_digits" (defScope s__law_digits) s.heap.objs.size f cdv)).units + 65 < cLine) (hu64 : (A.deeper (envOfC "_law_digits" (defScope s__law_digits) s.heap.objs.size f cdv)).units + 64 < cLine) (nd : (["_law_script", "_law_at", "_law_many", "_law_base", "_law_left", "_law_turn", "_law_cell", "_law_found", "_law_blend", "_law_more"] : List Str).Nodup) :
    PSs (cxOf (L2.CX P w) P w K mg base (["_law_script", "_law_at", "_law_many", "_law_base", "_law_left", "_law_turn", "_law_cell", "_law_found", "_law_blend", "_law_more"] : List Str) "_law_digits" (defScope s__law_digits) f cdv A outer s H W) (defBody s__law_digits) (tS ⟨K, ca, fnX, xn, l⟩ W b__law_digits) :=
  (s_cons (s_par2 (i := 6) (j := 7) rfl nd (a_cons (x_callC (ok__law_cell_at T) rfl hr (by decide) (passX (takes_of rfl rfl rfl rfl)) (a_cons (x_var (i := 0)) (a_cons (x_var (i := 1)) a_nil))) (a_cons (x_lstC a_nil) a_nil))) (s_cons (s_set (i := 4) nd (x_bin (o_sub) (x_var (i := 6)) (x_bin (o_pow) x_int x_int))) (s_cons (s_for (passes_of rfl) rfl (i_range1 T.n_range (a_cons (x_var (i := 2)) a_nil)) (g_name (i := 5) nd) (s_one (s_if (b_cmp (o_ge) (x_var (i := 6)) (x_bin (o_pow) x_int x_int)) (s_cons (s_expr (x_append (x_var (i := 7)) (x_bin (o_mod) (x_var (i := 4)) (x_var (i := 3))))) (s_one (s_set (i := 4) nd (x_or2 (x_bin o_div (x_var (i := 4)) (x_var (i := 3))) (x_bin o_divW (x_var (i := 4)) (x_var (i := 3))))))) (s_cons (s_set (i := 8) nd (x_callC (ok__law_draw T) rfl hr (by decide) (passX (takes_of rfl rfl rfl rfl)) (a_cons (x_bin (o_mul) (x_bin (o_addF rfl) (x_var (i := 6)) (x_bin (o_mul) x_int (x_var (i := 5)))) (x_bin (o_addF rfl) (x_bin (o_addF rfl) (x_var (i := 6)) (x_bin (o_mul) x_int (x_var (i := 5)))) x_int)) (a_cons (x_bin (o_addF rfl) (x_bin (o_mod) (x_var (i := 5)) x_int) x_int) (a_cons x_int a_nil))))) (s_cons (s_set (i := 9) nd (x_callC (ok__law_draw T) rfl hr (by decide) (passX (takes_of rfl rfl rfl rfl)) (a_cons (x_bin (o_addF rfl) (x_bin (o_mul) (x_bin (o_addF rfl) (x_var (i := 6)) (x_bin (o_mul) x_int (x_var (i := 5)))) (x_bin (o_addF rfl) (x_var (i := 6)) x_int)) (x_bin (o_mul) x_int (x_var (i := 5)))) (a_cons (x_bin (o_addF rfl) (x_bin (o_mod) (x_var (i := 5)) x_int) x_int) (a_cons x_int a_nil))))) (s_one (s_expr (x_append (x_var (i := 7)) (x_bin (o_mod) (x_bin (o_addF rfl) (x_bin (o_mul) (x_var (i := 8)) x_int) (x_var (i := 9))) (x_var (i := 3))))))))))) (s_one (s_ret (x_var (i := 7)))))))
def F__law_digits : List T → Sto → Z T := defFC 4 10 b__law_digits
theorem ok__law_digits (T : Tx K mg ca) : Cal P w K mg base ca fnX xn "_law_digits" 3 4 F__law_digits :=
  calC_of (k := 2) (N := (["_law_script", "_law_at", "_law_many", "_law_base", "_law_left", "_law_turn", "_law_cell", "_law_found", "_law_blend", "_law_more"] : List Str)) T.d__law_digits sc__law_digits rfl (by decide) (fun _ _ _ _ _ _ us hl => match us, hl with | [_, _, _, _], _ => rfl) fun f l cdv A outer s H W hr => by
    have hu65 := hu_of hr
    have hu64 := Nat.lt_of_succ_lt hu65
    have nd := nd__law_digits
    exact d__law_digits T l hr hu65 hu64 nd

abbrev s__law_pool : Stmt := top 40
def b__law_pool_1 : Fs := (sAsg (v2 hAddC (vVar 2) (vA F__law_digits (aCons (vVar 0) (aCons (vVar 3) (aCons (vC (.int 150)) (aCons (vVar 4) aNil)))))) (gN 2))
def b__law_pool : Fs := (sSeq (sAsg (vA hLstC aNil) (gN 2)) (sSeq (sFor (iEnumFT (aCons (vVar 1) aNil)) (gT [(gN 3), (gN 4)]) b__law_pool_1) (sRet (vVar 2))))
theorem nd__law_pool : (["_law_script", "_law_bases", "_law_found", "_law_at", "_law_base"] : List Str).Nodup := by decide +kernel
theorem sc__law_pool : FnScope (["_law_script", "_law_bases", "_law_found", "_law_at", "_law_base"] : List Str) (["_law_script", "_law_bases"] : List Str) (defScope s__law_pool) := ⟨rfl, rfl, rfl, nd__law_pool, rfl, by decide +kernel, by decide +kernel⟩
theorem d__law_pool (T : Tx K mg ca) (l : List Addr) {f : Addr} {cdv : Value} {A : Around} {outer : List Env} {s : Shared} {H : Hp} {W : XK} (hr : Room 3 (A.deeper (envOfC "_law_pool" (defScope s__law_pool) s.heap.objs.size f cdv))) (hu65 : (A.deeper (envOfC "_law_pool" (defScope s__law_pool) s.heap.objs.size f cdv)).units + 65 < cLine) (hu64 : (A.deeper (envOfC "_law_pool" (defScope s__law_pool) s.heap.objs.size f cdv)).units + 64 < cLine) (nd : (["_law_script", "_law_bases", "_law_found", "_law_at", "_law_base"] : List Str).Nodup) :
    PSs (cxOf (L2.CX P w) P w K mg base (["_law_script", "_law_bases", "_law_found", "_law_at", "_law_base"] : List Str) "_law_pool" (defScope s__law_pool) f cdv A outer s H W) (defBody s__law_pool) (tS ⟨K, ca, fnX, xn, l⟩ W b__law_pool) :=
  (s_cons (s_set (i := 2) nd (x_lstC a_nil)) (s_cons (s_for (passes_of rfl) rfl (i_enumT rfl T.n_enumerate (a_cons (x_var (i := 1)) a_nil)) (g_tup rfl rfl (gs_cons (g_name (i := 3) nd) (gs_cons (g_name (i := 4) nd) gs_nil))) (s_one (s_set (i := 2) nd (x_bin (o_addC) (x_var (i := 2)) (x_callC (ok__law_digits T) rfl hr (by decide) (passX (takes_of rfl rfl rfl rfl)) (a_cons (x_var (i := 0)) (a_cons (x_var (i := 3)) (a_cons x_int (a_cons (x_var (i := 4)) a_nil))))))))) (s_one (s_ret (x_var (i := 2))))))
def F__law_pool : List T → Sto → Z T := defFC 2 5 b__law_pool
theorem ok__law_pool (T : Tx K mg ca) : Cal P w K mg base ca fnX xn "_law_pool" 4 2 F__law_pool :=
  calC_of (k := 3) (N := (["_law_script", "_law_bases", "_law_found", "_law_at", "_law_base"] : List Str)) T.d__law_pool sc__law_pool rfl (by decide) (fun _ _ _ _ _ _ us hl => match us, hl with | [_, _], _ => rfl) fun f l cdv A outer s H W hr => by
    have hu65 := hu_of hr
    have hu64 := Nat.lt_of_succ_lt hu65
    have nd := nd__law_pool
    exact d__law_pool T l hr hu65 hu64 nd

abbrev s__law_take : Stmt := top 39
def b__law_take : Fs := (sRet (vIf (bOf (v2 (hEqF false) (vVar 0) (vA hLst aNil))) (v2 hMod (vPopAt (vVar 0) (vC (.int 0))) (vVar 1)) (vC (.int 0))))
theorem nd__law_take : (["_law_draws", "_law_many"] : List Str).Nodup := by decide +kernel
theorem sc__law_take : FnScope (["_law_draws", "_law_many"] : List Str) (["_law_draws", "_law_many"] : List Str) (defScope s__law_take) := ⟨rfl, rfl, rfl, nd__law_take, rfl, by decide +kernel, by decide +kernel⟩
theorem d__law_take (T : Tx K mg ca) (l : List Addr) {f : Addr} {cdv : Value} {A : Around} {outer : List Env} {s : Shared} {H : Hp} {W : XK} (hr : Room 0 (A.deeper (envOfC "_law_take" (defScope s__law_take) s.heap.objs.size f cdv))) (hu65 : (A.deeper (envOfC "_law_take" (defScope s__law_take) s.heap.objs.size f cdv)).units + 65 < cLine) (hu64 : (A.deeper (envOfC "_law_take" (defScope s__law_take) s.heap.objs.size f cdv)).units + 64 < cLine) (nd : (["_law_draws", "_law_many"] : List Str).Nodup) :
    PSs (cxOf (L2.CX P w) P w K mg base (["_law_draws", "_law_many"] : List Str) "_law_take" (defScope s__law_take) f cdv A outer s H W) (defBody s__law_take) (tS ⟨K, ca, fnX, xn, l⟩ W b__law_take) :=
  (s_one (s_ret (x_if (b_cmp (o_neF rfl hu64) (x_var (i := 0)) (x_lst a_nil)) (x_bin (o_mod) (x_popAt (x_var (i := 0)) x_int) (x_var (i := 1))) x_int)))
def F__law_take : List T → Sto → Z T := defF fnX 2 2 b__law_take
theorem ok__law_take (T : Tx K mg ca) : Cal P w K mg base ca fnX xn "_law_take" 1 2 F__law_take :=
  cal_of (k := 0) (N := (["_law_draws", "_law_many"] : List Str)) T.d__law_take sc__law_take rfl (by decide) (fun _ _ _ _ _ _ us hl => match us, hl with | [_, _], _ => rfl) fun f l cdv A outer s H W hr => by
    have hu65 := hu_of hr
    have hu64 := Nat.lt_of_succ_lt hu65
    have nd := nd__law_take
    exact d__law_take T l hr hu65 hu64 nd

abbrev s__law_drawn : Stmt := top 41
def q__law_drawn_1 : Fx := (vLc [10] (iTupF (vVar 3)) (gN 10) (bOf (v2 hLt (vA F__law_take (aCons (vVar 0) (aCons (vA hLen (aCons (vVar 3) aNil)) aNil))) (vC (.int 2)))) (vVar 10))
def q__law_drawn_2 : Fx := (vLc [10] (iSeq (vVar 9)) (gN 10) bYes (vA hTup (aCons (vVar 8) (aCons (vVar 10) aNil))))
def b__law_drawn_3 : Fs := (sSeq (sAsg q__law_drawn_1 (gN 9)) (sSeq (sIf (bOf (v2 (hEqF true) (vA F__law_take (aCons (vVar 0) (aCons (vC (.int 2)) aNil))) (vC (.int 0)))) (sAsg (vRev (vVar 9)) (gN 9)) sNext) (sSeq (sExpr (vAppend (vVar 4) (vA hTup (aCons (vVar 8) (aCons (v2 hAddF (vC (.int 1)) (vA F__law_take (aCons (vVar 0) (aCons (vC (.int 2)) aNil)))) (aCons (vA hTuple (aCons (vVar 9) aNil)) (aCons (vAnd (v2 hGt (vVar 7) (vC (.int 0))) (v2 (hEqF true) (vA F__law_take (aCons (vVar 0) (aCons (vC (.int 4)) aNil))) (vC (.int 0)))) aNil))))))) (sAsg (v2 hAddC (vVar 5) q__law_drawn_2) (gN 5)))))
def b__law_drawn_4 : Fs := (sIf (bOf (v2 (hEqF false) (vVar 5) (vA hLst aNil))) (sExpr (vAppend (vVar 6) (vA hTup (aCons (vPopAt (vVar 5) (vA F__law_take (aCons (vVar 0) (aCons (vA hLen (aCons (vVar 5) aNil)) aNil)))) (aCons (v2 hAddF (vC (.int 1)) (vA F__law_take (aCons (vVar 0) (aCons (vC (.int 9)) aNil)))) aNil))))) sNext)
def b__law_drawn : Fs := (sSeq (sAsg (vA hTup (aCons (vSlF (vA hTup (aCons (vC (.str "b")) (aCons (vC (.str "a")) (aCons (vC (.str "mid")) (aCons (vC (.str "end")) (aCons (vC (.str "c")) (aCons (vC (.str "far")) aNil))))))) oNone (oSome (v2 hAddF (vC (.int 2)) (vA F__law_take (aCons (vVar 0) (aCons (vC (.int 5)) aNil)))))) (aCons (vA hLstC aNil) (aCons (vA hLstC aNil) (aCons (vA hLstC aNil) aNil))))) (gT [(gN 3), (gN 4), (gN 5), (gN 6)])) (sSeq (sFor (iEnumFT (aCons (vVar 3) aNil)) (gT [(gN 7), (gN 8)]) b__law_drawn_3) (sSeq (sFor (iRange1 (aCons (vA F__law_take (aCons (vVar 0) (aCons (v2 hAddF (vVar 1) (vC (.int 1))) aNil))) aNil)) (gN 2) b__law_drawn_4) (sRet (vA hTup (aCons (vVar 4) (aCons (v2 hIx (vVar 3) (vA F__law_take (aCons (vVar 0) (aCons (vC (.int 2)) aNil)))) (aCons (vVar 6) aNil))))))))
theorem nd__law_drawn : (["_law_draws", "_law_most", "_law_turn", "_law_names", "_law_rows", "_law_every", "_law_fees", "_law_at", "_law_name", "_law_aims", "_law_one"] : List Str).Nodup := by decide +kernel
theorem sc__law_drawn : FnScope (["_law_draws", "_law_most", "_law_turn", "_law_names", "_law_rows", "_law_every", "_law_fees", "_law_at", "_law_name", "_law_aims", "_law_one"] : List Str) (["_law_draws", "_law_most"] : List Str) (defScope s__law_drawn) := ⟨rfl, rfl, rfl, nd__law_drawn, rfl, by decide +kernel, by decide +kernel⟩
theorem d__law_drawn (T : Tx K mg ca) (l : List Addr) {f : Addr} {cdv : Value} {A : Around} {outer : List Env} {s : Shared} {H : Hp} {W : XK} (hr : Room 1 (A.deeper (envOfC "_law_drawn" (defScope s__law_drawn) s.heap.objs.size f cdv))) (hu65 : (A.deeper (envOfC "_law_drawn" (defScope s__law_drawn) s.heap.objs.size f cdv)).units + 65 < cLine) (hu64 : (A.deeper (envOfC "_law_drawn" (defScope s__law_drawn) s.heap.objs.size f cdv)).units + 64 < cLine) (nd : (["_law_draws", "_law_most", "_law_turn", "_law_names", "_law_rows", "_law_every", "_law_fees", "_law_at", "_law_name", "_law_aims", "_law_one"] : List Str).Nodup) :
    PSs (cxOf (L2.CX P w) P w K mg base (["_law_draws", "_law_most", "_law_turn", "_law_names", "_law_rows", "_law_every", "_law_fees", "_law_at", "_law_name", "_law_aims", "_law_one"] : List Str) "_law_drawn" (defScope s__law_drawn) f cdv A outer s H W) (defBody s__law_drawn) (tS ⟨K, ca, fnX, xn, l⟩ W b__law_drawn) :=
  (s_cons (s_asg (x_tup (a_cons (x_sliceF rfl (x_tup (a_cons x_str (a_cons x_str (a_cons x_str (a_cons x_str (a_cons x_str (a_cons x_str a_nil))))))) o_none (o_some (x_bin (o_addF rfl) x_int (x_callC (ok__law_take T) rfl hr (by decide) (passX (takes_of rfl rfl rfl rfl)) (a_cons (x_var (i := 0)) (a_cons x_int a_nil)))))) (a_cons (x_lstC a_nil) (a_cons (x_lstC a_nil) (a_cons (x_lstC a_nil) a_nil))))) (g_tup rfl rfl (gs_cons (g_name (i := 3) nd) (gs_cons (g_name (i := 4) nd) (gs_cons (g_name (i := 5) nd) (gs_cons (g_name (i := 6) nd) gs_nil)))))) (s_cons (s_for (passes_of rfl) rfl (i_enumT rfl T.n_enumerate (a_cons (x_var (i := 3)) a_nil)) (g_tup rfl rfl (gs_cons (g_name (i := 7) nd) (gs_cons (g_name (i := 8) nd) gs_nil))) (s_cons (s_setLc (own := [("_law_one", 10)]) (i := 9) rfl nd rfl rfl rfl (i_tup rfl (x_var (i := 3))) (blkOk_by (N := ["_law_draws", "_law_most", "_law_turn", "_law_names", "_law_rows", "_law_every", "_law_fees", "_law_at", "_law_name", "_law_aims", "_law_one"]) (sc := defScope s__law_drawn) (by decide +kernel)) (fun l s H C cl fp => (g_name (i := 10) nd)) (fun l s H C cl fp => (q_one (b_cmp (o_lt) (x_callC (ok__law_take T) rfl hr (by decide) pass0 (a_cons (x_var (i := 0)) (a_cons (x_blt (c_len rfl) T.n_len (by decide +kernel) (a_cons (x_var (i := 3)) a_nil)) a_nil))) x_int))) (fun l s H C cl fp => (x_var (i := 10)))) (s_cons (s_if (b_cmp (o_eqF rfl hu64) (x_callC (ok__law_take T) rfl hr (by decide) (passX (takes_of rfl rfl rfl rfl)) (a_cons (x_var (i := 0)) (a_cons x_int a_nil))) x_int) (s_one (s_set (i := 9) nd (x_rev rfl (x_var (i := 9))))) s_nil) (s_cons (s_expr (x_append (x_var (i := 4)) (x_tup (a_cons (x_var (i := 8)) (a_cons (x_bin (o_addF rfl) x_int (x_callC (ok__law_take T) rfl hr (by decide) (passX (takes_of rfl rfl rfl rfl)) (a_cons (x_var (i := 0)) (a_cons x_int a_nil)))) (a_cons (x_blty (c_tuple rfl) T.n_tuple (by decide +kernel) (a_cons (x_var (i := 9)) a_nil)) (a_cons (x_and (x_cmp (o_gt) (x_var (i := 7)) x_int) (x_one (x_cmp (o_eqF rfl hu64) (x_callC (ok__law_take T) rfl hr (by decide) (passX (takes_of rfl rfl rfl rfl)) (a_cons (x_var (i := 0)) (a_cons x_int a_nil))) x_int))) a_nil))))))) (s_one (s_set (i := 5) nd (x_bin (o_addC) (x_var (i := 5)) (x_lc (own := [("_law_one", 10)]) rfl nd (i_list rfl (x_var (i := 9))) (blkOk_by (N := ["_law_draws", "_law_most", "_law_turn", "_law_names", "_law_rows", "_law_every", "_law_fees", "_law_at", "_law_name", "_law_aims", "_law_one"]) (sc := defScope s__law_drawn) (by decide +kernel)) (fun l s H C cl fp => (g_name (i := 10) nd)) (fun l s H C cl fp => q_nil) (fun l s H C cl fp => (x_tup (a_cons (x_var (i := 8)) (a_cons (x_var (i := 10)) a_nil)))))))))))) (s_cons (s_for (passes_of rfl) rfl (i_range1 T.n_range (a_cons (x_callC (ok__law_take T) rfl hr (by decide) (passX (takes_of rfl rfl rfl rfl)) (a_cons (x_var (i := 0)) (a_cons (x_bin (o_addF rfl) (x_var (i := 1)) x_int) a_nil))) a_nil)) (g_name (i := 2) nd) (s_one (s_if (b_cmp (o_neF rfl hu64) (x_var (i := 5)) (x_lst a_nil)) (s_one (s_expr (x_append (x_var (i := 6)) (x_tup (a_cons (x_popAt (x_var (i := 5)) (x_callC (ok__law_take T) rfl hr (by decide) (passX (takes_of rfl rfl rfl rfl)) (a_cons (x_var (i := 0)) (a_cons (x_blt (c_len rfl) T.n_len (by decide +kernel) (a_cons (x_var (i := 5)) a_nil)) a_nil)))) (a_cons (x_bin (o_addF rfl) x_int (x_callC (ok__law_take T) rfl hr (by decide) (passX (takes_of rfl rfl rfl rfl)) (a_cons (x_var (i := 0)) (a_cons x_int a_nil)))) a_nil)))))) s_nil))) (s_one (s_ret (x_tup (a_cons (x_var (i := 4)) (a_cons (x_sub rfl hu65 (x_var (i := 3)) (x_callC (ok__law_take T) rfl hr (by decide) (passX (takes_of rfl rfl rfl rfl)) (a_cons (x_var (i := 0)) (a_cons x_int a_nil)))) (a_cons (x_var (i := 6)) a_nil)))))))))
def F__law_drawn : List T → Sto → Z T := defF fnX 2 11 b__law_drawn
theorem ok__law_drawn (T : Tx K mg ca) : Cal P w K mg base ca fnX xn "_law_drawn" 2 2 F__law_drawn :=
  cal_of (k := 1) (N := (["_law_draws", "_law_most", "_law_turn", "_law_names", "_law_rows", "_law_every", "_law_fees", "_law_at", "_law_name", "_law_aims", "_law_one"] : List Str)) T.d__law_drawn sc__law_drawn rfl (by decide) (fun _ _ _ _ _ _ us hl => match us, hl with | [_, _], _ => rfl) fun f l cdv A outer s H W hr => by
    have hu65 := hu_of hr
    have hu64 := Nat.lt_of_succ_lt hu65
    have nd := nd__law_drawn
    exact d__law_drawn T l hr hu65 hu64 nd

abbrev s_is_number : Stmt := top 13
def b_is_number : Fs := (sRet (vAnd (v1 (hIsi .int []) (vVar 0)) (vNot (v1 (hIsi .bool []) (vVar 0)))))
theorem nd_is_number : (["value"] : List Str).Nodup := by decide +kernel
theorem sc_is_number : FnScope (["value"] : List Str) (["value"] : List Str) (defScope s_is_number) := ⟨rfl, rfl, rfl, nd_is_number, rfl, by decide +kernel, by decide +kernel⟩
theorem d_is_number (T : Tx K mg ca) (l : List Addr) {f : Addr} {cdv : Value} {A : Around} {outer : List Env} {s : Shared} {H : Hp} {W : XK} (hr : Room 0 (A.deeper (envOfC "is_number" (defScope s_is_number) s.heap.objs.size f cdv))) (hu65 : (A.deeper (envOfC "is_number" (defScope s_is_number) s.heap.objs.size f cdv)).units + 65 < cLine) (hu64 : (A.deeper (envOfC "is_number" (defScope s_is_number) s.heap.objs.size f cdv)).units + 64 < cLine) (nd : (["value"] : List Str).Nodup) :
    PSs (cxOf (L2.CX P w) P w K mg base (["value"] : List Str) "is_number" (defScope s_is_number) f cdv A outer s H W) (defBody s_is_number) (tS ⟨K, ca, fnX, xn, l⟩ W b_is_number) :=
  (s_one (s_ret (x_and (x_isi .int [] rfl (fun c h => nomatch h) T.n_isinstance T.n_int (by decide +kernel) (x_var (i := 0))) (x_one (x_not (x_isi .bool [] rfl (fun c h => nomatch h) T.n_isinstance T.n_bool (by decide +kernel) (x_var (i := 0))))))))
def F_is_number : List T → Sto → Z T := defF fnX 1 1 b_is_number
theorem ok_is_number (T : Tx K mg ca) : Cal P w K mg base ca fnX xn "is_number" 1 1 F_is_number :=
  cal_of (k := 0) (N := (["value"] : List Str)) T.d_is_number sc_is_number rfl (by decide) (fun _ _ _ _ _ _ us hl => match us, hl with | [_], _ => rfl) fun f l cdv A outer s H W hr => by
    have hu65 := hu_of hr
    have hu64 := Nat.lt_of_succ_lt hu65
    have nd := nd_is_number
    exact d_is_number T l hr hu65 hu64 nd

abbrev s_is_name : Stmt := top 12
def q_is_name_1 : Fx := (vLc [1] (iStrF (vVar 0)) (gN 1) bYes (v3 hLe hLe (vC (.str "a")) (vVar 1) (vC (.str "z"))))
def b_is_name : Fs := (sSeq (sIf (bOr (bNot (bOf (v1 (hIsi .str []) (vVar 0)))) (bNot (bOf (v3 hLe hLe (vC (.int 1)) (vA hLen (aCons (vVar 0) aNil)) (vC (.int 8)))))) (sRet (vC (.bl false))) sNext) (sRet (vA (hAll fun bs => bs.all id) (aCons q_is_name_1 aNil))))
theorem nd_is_name : (["value", "letter"] : List Str).Nodup := by decide +kernel
theorem sc_is_name : FnScope (["value", "letter"] : List Str) (["value"] : List Str) (defScope s_is_name) := ⟨rfl, rfl, rfl, nd_is_name, rfl, by decide +kernel, by decide +kernel⟩
theorem d_is_name (T : Tx K mg ca) (l : List Addr) {f : Addr} {cdv : Value} {A : Around} {outer : List Env} {s : Shared} {H : Hp} {W : XK} (hr : Room 0 (A.deeper (envOfC "is_name" (defScope s_is_name) s.heap.objs.size f cdv))) (hu65 : (A.deeper (envOfC "is_name" (defScope s_is_name) s.heap.objs.size f cdv)).units + 65 < cLine) (hu64 : (A.deeper (envOfC "is_name" (defScope s_is_name) s.heap.objs.size f cdv)).units + 64 < cLine) (nd : (["value", "letter"] : List Str).Nodup) :
    PSs (cxOf (L2.CX P w) P w K mg base (["value", "letter"] : List Str) "is_name" (defScope s_is_name) f cdv A outer s H W) (defBody s_is_name) (tS ⟨K, ca, fnX, xn, l⟩ W b_is_name) :=
  (s_cons (s_if (L2.PW.pt (w_or (b_not (b_val (x_isi .str [] rfl (fun c h => nomatch h) T.n_isinstance T.n_str (by decide +kernel) (x_var (i := 0))))) (w_1 (b_not (b_chain (o_le) (o_le) x_int (x_blt (c_len rfl) T.n_len (by decide +kernel) (a_cons (x_var (i := 0)) a_nil)) (x_gint T.c_LONGEST_NAME.choose_spec)))))) (s_one (s_ret x_bl)) s_nil) (s_one (s_ret (x_blt (c_all rfl rfl) T.n_all (by decide +kernel) (a_cons (x_lc (own := [("letter", 1)]) rfl nd (i_str (x_var (i := 0))) (blkOk_by (N := ["value", "letter"]) (sc := defScope s_is_name) (by decide +kernel)) (fun l s H C cl fp => (g_name (i := 1) nd)) (fun l s H C cl fp => q_nil) (fun l s H C cl fp => (x_chain (o_le) (o_le) x_str (x_var (i := 1)) x_str))) a_nil)))))
def F_is_name : List T → Sto → Z T := defF fnX 1 2 b_is_name
theorem ok_is_name (T : Tx K mg ca) : Cal P w K mg base ca fnX xn "is_name" 1 1 F_is_name :=
  cal_of (k := 0) (N := (["value", "letter"] : List Str)) T.d_is_name sc_is_name rfl (by decide) (fun _ _ _ _ _ _ us hl => match us, hl with | [_], _ => rfl) fun f l cdv A outer s H W hr => by
    have hu65 := hu_of hr
    have hu64 := Nat.lt_of_succ_lt hu65
    have nd := nd_is_name
    exact d_is_name T l hr hu65 hu64 nd

abbrev s_are_different_names : Stmt := top 14
def b_are_different_names_1 : Fs := (sSeq (sIf (bOr (bNot (bOf (vA F_is_name (aCons (vVar 2) aNil)))) (bOf (v2 (hIn true) (vVar 2) (vVar 1)))) (sRet (vC (.bl false))) sNext) (sPut (vVar 1) (vVar 2) (vC (.bl true))))
def b_are_different_names : Fs := (sSeq (sAsg vNewKc (gN 1)) (sSeq (sFor (iTupF (vVar 0)) (gN 2) b_are_different_names_1) (sRet (vC (.bl true)))))
theorem nd_are_different_names : (["values", "seen", "value"] : List Str).Nodup := by decide +kernel
theorem sc_are_different_names : FnScope (["values", "seen", "value"] : List Str) (["values"] : List Str) (defScope s_are_different_names) := ⟨rfl, rfl, rfl, nd_are_different_names, rfl, by decide +kernel, by decide +kernel⟩
theorem d_are_different_names (T : Tx K mg ca) (l : List Addr) {f : Addr} {cdv : Value} {A : Around} {outer : List Env} {s : Shared} {H : Hp} {W : XK} (hr : Room 1 (A.deeper (envOfC "are_different_names" (defScope s_are_different_names) s.heap.objs.size f cdv))) (hu65 : (A.deeper (envOfC "are_different_names" (defScope s_are_different_names) s.heap.objs.size f cdv)).units + 65 < cLine) (hu64 : (A.deeper (envOfC "are_different_names" (defScope s_are_different_names) s.heap.objs.size f cdv)).units + 64 < cLine) (nd : (["values", "seen", "value"] : List Str).Nodup) :
    PSs (cxOf (L2.CX P w) P w K mg base (["values", "seen", "value"] : List Str) "are_different_names" (defScope s_are_different_names) f cdv A outer s H W) (defBody s_are_different_names) (tS ⟨K, ca, fnX, xn, l⟩ W b_are_different_names) :=
  (s_cons (s_set (i := 1) nd x_newKc) (s_cons (s_for (passes_of rfl) rfl (i_tup rfl (x_var (i := 0))) (g_name (i := 2) nd) (s_cons (s_if (L2.PW.pt (w_or (b_not (b_val (x_callC (ok_is_name T) rfl hr (by decide) (passX (takes_of rfl rfl rfl rfl)) (a_cons (x_var (i := 2)) a_nil)))) (w_1 (b_cmp (o_in rfl hu65) (x_var (i := 2)) (x_var (i := 1)))))) (s_one (s_ret x_bl)) s_nil) (s_one (s_put hu65 x_bl (x_var (i := 1)) (x_var (i := 2)))))) (s_one (s_ret x_bl))))
def F_are_different_names : List T → Sto → Z T := defF fnX 1 3 b_are_different_names
theorem ok_are_different_names (T : Tx K mg ca) : Cal P w K mg base ca fnX xn "are_different_names" 2 1 F_are_different_names :=
  cal_of (k := 1) (N := (["values", "seen", "value"] : List Str)) T.d_are_different_names sc_are_different_names rfl (by decide) (fun _ _ _ _ _ _ us hl => match us, hl with | [_], _ => rfl) fun f l cdv A outer s H W hr => by
    have hu65 := hu_of hr
    have hu64 := Nat.lt_of_succ_lt hu65
    have nd := nd_are_different_names
    exact d_are_different_names T l hr hu65 hu64 nd

abbrev s_Field___init__ : Stmt := inClass (top 15) 0
def b_Field___init__ : Fs := (sSeq (sIf (bOr (bNot (bOf (vA F_is_number (aCons (vVar 1) aNil)))) (bOf (v2 (hIn false) (vVar 1) (vA hTup (aCons (vC (.int 1)) (aCons (vC (.int 2)) aNil)))))) sBad sNext) (sSeq (sIf (bNot (bOf (vA F_are_different_names (aCons (vVar 3) aNil)))) sBad sNext) (sSeq (sIf (bNot (bOf (v1 (hIsi .bool []) (vVar 2)))) sBad sNext) (sSeq (sFput 0 "_owner" (vVar 0) (vVar 1)) (sSeq (sFput 0 "_targets" (vVar 0) (vVar 3)) (sFput 0 "_goal" (vVar 0) (vVar 2)))))))
theorem nd_Field___init__ : (["self", "owner", "goal", "targets"] : List Str).Nodup := by decide +kernel
theorem sc_Field___init__ : FnScope (["self", "owner", "goal", "targets"] : List Str) (["self", "owner", "goal", "targets"] : List Str) (defScope s_Field___init__) := ⟨rfl, rfl, rfl, nd_Field___init__, rfl, by decide +kernel, by decide +kernel⟩
theorem d_Field___init__ (T : Tx K mg ca) (l : List Addr) {f : Addr} {cdv : Value} {A : Around} {outer : List Env} {s : Shared} {H : Hp} {W : XK} (hr : Room 2 (A.deeper (envOfC "Field.__init__" (defScope s_Field___init__) s.heap.objs.size f cdv))) (hu65 : (A.deeper (envOfC "Field.__init__" (defScope s_Field___init__) s.heap.objs.size f cdv)).units + 65 < cLine) (hu64 : (A.deeper (envOfC "Field.__init__" (defScope s_Field___init__) s.heap.objs.size f cdv)).units + 64 < cLine) (nd : (["self", "owner", "goal", "targets"] : List Str).Nodup) :
    PSs (cxOf (L2.CX P w) P w K mg base (["self", "owner", "goal", "targets"] : List Str) "Field.__init__" (defScope s_Field___init__) f cdv A outer s H W) (defBody s_Field___init__) (tS ⟨K, ca, fnX, xn, l⟩ W b_Field___init__) :=
  (s_cons (s_if (L2.PW.pt (w_or (b_not (b_val (x_callC (ok_is_number T) rfl hr (by decide) (passX (takes_of rfl rfl rfl rfl)) (a_cons (x_var (i := 1)) a_nil)))) (w_1 (b_cmp (o_notin rfl hu65) (x_var (i := 1)) (x_tup (a_cons x_int (a_cons x_int a_nil))))))) (s_one s_never) s_nil) (s_cons (s_if (b_not (b_val (x_callC (ok_are_different_names T) rfl hr (by decide) (passX (takes_of rfl rfl rfl rfl)) (a_cons (x_var (i := 3)) a_nil)))) (s_one s_never) s_nil) (s_cons (s_if (b_not (b_val (x_isi .bool [] rfl (fun c h => nomatch h) T.n_isinstance T.n_bool (by decide +kernel) (x_var (i := 2))))) (s_one s_never) s_nil) (s_cons (s_fput 0 T.cl_0 T.na_0__owner (x_var (i := 0)) (x_var (i := 1))) (s_cons (s_fput 0 T.cl_0 T.na_0__targets (x_var (i := 0)) (x_var (i := 3))) (s_one (s_fput 0 T.cl_0 T.na_0__goal (x_var (i := 0)) (x_var (i := 2)))))))))
def F_Field___init__ : List T → Sto → Z T := starF fnX 2 1 4 b_Field___init__
def F_Field___init__0 : List T → Sto → Z T := fun as st => starF fnX 2 1 4 b_Field___init__ (as ++ [.bl false]) st
theorem ok_Field___init__ (T : Tx K mg ca) : MakeS P w K mg base ca fnX xn 0 3 (["goal"] : List Str) F_Field___init__ :=
  makeS_of (k := 2) (N := (["self", "owner", "goal", "targets"] : List Str)) (ps := (["self", "owner"] : List Str)) (ks := (["goal"] : List Str)) (pv := "targets") T.i_Field sc_Field___init__ rfl rfl (by decide) (fun _ _ _ _ _ _ us rest ws h1 h2 => match us, rest, ws, h1, h2 with | [_, _], [], [_], _, _ => rfl | [_, _], _ :: _, [_], _, _ => rfl) fun f l cdv A outer s H W hr => by
    have hu65 := hu_of hr
    have hu64 := Nat.lt_of_succ_lt hu65
    have nd := nd_Field___init__
    exact d_Field___init__ T l hr hu65 hu64 nd
theorem ok_Field___init__0 (T : Tx K mg ca) : MakeS P w K mg base ca fnX xn 0 3 [] F_Field___init__0 :=
  makeS0_of (k := 2) (N := (["self", "owner", "goal", "targets"] : List Str)) (ps := (["self", "owner"] : List Str)) (kn := "goal") (pv := "targets") T.ik_Field (fun _ _ _ => rfl) sc_Field___init__ rfl (by decide) (fun _ _ _ _ _ _ _ us rest h1 => match us, rest, h1 with | [_, _], [], _ => ⟨_, _, _, _, _, _, rfl, rfl, rfl⟩ | [_, _], _ :: _, _ => ⟨_, _, _, _, _, _, rfl, rfl, rfl⟩) fun f l cdv A outer s H W hr => by
    have hu65 := hu_of hr
    have hu64 := Nat.lt_of_succ_lt hu65
    have nd := nd_Field___init__
    exact d_Field___init__ T l hr hu65 hu64 nd

abbrev s__law_field : Stmt := top 42
def b__law_field : Fs := (sSeq (sPar [1, 2, 3] (aCons (v2 hIx (vVar 0) (vC (.int 1))) (aCons (v2 hIx (vVar 0) (vC (.int 2))) (aCons (v2 hIx (vVar 0) (vC (.int 3))) aNil)))) (sSeq (sIf (bOf (v2 (hEqF true) (vA hLen (aCons (vVar 2) aNil)) (vC (.int 0)))) (sRet (vMakeS fnX 0 F_Field___init__ (aCons (vVar 1) aNil) (aCons (vVar 3) aNil))) sNext) (sSeq (sIf (bOf (v2 (hEqF true) (vA hLen (aCons (vVar 2) aNil)) (vC (.int 1)))) (sRet (vMakeS fnX 0 F_Field___init__ (aCons (vVar 1) (aCons (v2 hIx (vVar 2) (vC (.int 0))) aNil)) (aCons (vVar 3) aNil))) sNext) (sSeq (sIf (bOf (v2 (hEqF true) (vA hLen (aCons (vVar 2) aNil)) (vC (.int 2)))) (sRet (vMakeS fnX 0 F_Field___init__ (aCons (vVar 1) (aCons (v2 hIx (vVar 2) (vC (.int 0))) (aCons (v2 hIx (vVar 2) (vC (.int 1))) aNil))) (aCons (vVar 3) aNil))) sNext) (sSeq (sIf (bOf (v2 (hEqF true) (vA hLen (aCons (vVar 2) aNil)) (vC (.int 3)))) (sRet (vMakeS fnX 0 F_Field___init__ (aCons (vVar 1) (aCons (v2 hIx (vVar 2) (vC (.int 0))) (aCons (v2 hIx (vVar 2) (vC (.int 1))) (aCons (v2 hIx (vVar 2) (vC (.int 2))) aNil)))) (aCons (vVar 3) aNil))) sNext) (sSeq (sIf (bOf (v2 (hEqF true) (vA hLen (aCons (vVar 2) aNil)) (vC (.int 4)))) (sRet (vMakeS fnX 0 F_Field___init__ (aCons (vVar 1) (aCons (v2 hIx (vVar 2) (vC (.int 0))) (aCons (v2 hIx (vVar 2) (vC (.int 1))) (aCons (v2 hIx (vVar 2) (vC (.int 2))) (aCons (v2 hIx (vVar 2) (vC (.int 3))) aNil))))) (aCons (vVar 3) aNil))) sNext) (sSeq (sIf (bOf (v2 (hEqF true) (vA hLen (aCons (vVar 2) aNil)) (vC (.int 5)))) (sRet (vMakeS fnX 0 F_Field___init__ (aCons (vVar 1) (aCons (v2 hIx (vVar 2) (vC (.int 0))) (aCons (v2 hIx (vVar 2) (vC (.int 1))) (aCons (v2 hIx (vVar 2) (vC (.int 2))) (aCons (v2 hIx (vVar 2) (vC (.int 3))) (aCons (v2 hIx (vVar 2) (vC (.int 4))) aNil)))))) (aCons (vVar 3) aNil))) sNext) (sRet (vMakeS fnX 0 F_Field___init__ (aCons (vVar 1) (aCons (v2 hIx (vVar 2) (vC (.int 0))) (aCons (v2 hIx (vVar 2) (vC (.int 1))) (aCons (v2 hIx (vVar 2) (vC (.int 2))) (aCons (v2 hIx (vVar 2) (vC (.int 3))) (aCons (v2 hIx (vVar 2) (vC (.int 4))) (aCons (v2 hIx (vVar 2) (vC (.int 5))) aNil))))))) (aCons (vVar 3) aNil))))))))))
theorem nd__law_field : (["_law_row_here", "_law_side", "_law_aims", "_law_is_end"] : List Str).Nodup := by decide +kernel
theorem sc__law_field : FnScope (["_law_row_here", "_law_side", "_law_aims", "_law_is_end"] : List Str) (["_law_row_here"] : List Str) (defScope s__law_field) := ⟨rfl, rfl, rfl, nd__law_field, rfl, by decide +kernel, by decide +kernel⟩
theorem d__law_field (T : Tx K mg ca) (l : List Addr) {f : Addr} {cdv : Value} {A : Around} {outer : List Env} {s : Shared} {H : Hp} {W : XK} (hr : Room 4 (A.deeper (envOfC "_law_field" (defScope s__law_field) s.heap.objs.size f cdv))) (hu65 : (A.deeper (envOfC "_law_field" (defScope s__law_field) s.heap.objs.size f cdv)).units + 65 < cLine) (hu64 : (A.deeper (envOfC "_law_field" (defScope s__law_field) s.heap.objs.size f cdv)).units + 64 < cLine) (nd : (["_law_row_here", "_law_side", "_law_aims", "_law_is_end"] : List Str).Nodup) :
    PSs (cxOf (L2.CX P w) P w K mg base (["_law_row_here", "_law_side", "_law_aims", "_law_is_end"] : List Str) "_law_field" (defScope s__law_field) f cdv A outer s H W) (defBody s__law_field) (tS ⟨K, ca, fnX, xn, l⟩ W b__law_field) :=
  (s_cons (s_par3 (i := 1) (j := 2) (l := 3) rfl nd (a_cons (x_sub rfl hu65 (x_var (i := 0)) x_int) (a_cons (x_sub rfl hu65 (x_var (i := 0)) x_int) (a_cons (x_sub rfl hu65 (x_var (i := 0)) x_int) a_nil)))) (s_cons (s_if (b_cmp (o_eqF rfl hu64) (x_blt (c_len rfl) T.n_len (by decide +kernel) (a_cons (x_var (i := 2)) a_nil)) x_int) (s_one (s_ret (x_makeSC (ok_Field___init__ T) rfl T.g_Field hr (by decide) (passX (takes_of rfl rfl rfl rfl)) (a_cons (x_var (i := 1)) a_nil) (k_cons (x_var (i := 3)) k_nil) a_len1))) s_nil) (s_cons (s_if (b_cmp (o_eqF rfl hu64) (x_blt (c_len rfl) T.n_len (by decide +kernel) (a_cons (x_var (i := 2)) a_nil)) x_int) (s_one (s_ret (x_makeSC (ok_Field___init__ T) rfl T.g_Field hr (by decide) (passX (takes_of rfl rfl rfl rfl)) (a_cons (x_var (i := 1)) (a_cons (x_sub rfl hu65 (x_var (i := 2)) x_int) a_nil)) (k_cons (x_var (i := 3)) k_nil) a_len1))) s_nil) (s_cons (s_if (b_cmp (o_eqF rfl hu64) (x_blt (c_len rfl) T.n_len (by decide +kernel) (a_cons (x_var (i := 2)) a_nil)) x_int) (s_one (s_ret (x_makeSC (ok_Field___init__ T) rfl T.g_Field hr (by decide) (passX (takes_of rfl rfl rfl rfl)) (a_cons (x_var (i := 1)) (a_cons (x_sub rfl hu65 (x_var (i := 2)) x_int) (a_cons (x_sub rfl hu65 (x_var (i := 2)) x_int) a_nil))) (k_cons (x_var (i := 3)) k_nil) a_len1))) s_nil) (s_cons (s_if (b_cmp (o_eqF rfl hu64) (x_blt (c_len rfl) T.n_len (by decide +kernel) (a_cons (x_var (i := 2)) a_nil)) x_int) (s_one (s_ret (x_makeSC (ok_Field___init__ T) rfl T.g_Field hr (by decide) (passX (takes_of rfl rfl rfl rfl)) (a_cons (x_var (i := 1)) (a_cons (x_sub rfl hu65 (x_var (i := 2)) x_int) (a_cons (x_sub rfl hu65 (x_var (i := 2)) x_int) (a_cons (x_sub rfl hu65 (x_var (i := 2)) x_int) a_nil)))) (k_cons (x_var (i := 3)) k_nil) a_len1))) s_nil) (s_cons (s_if (b_cmp (o_eqF rfl hu64) (x_blt (c_len rfl) T.n_len (by decide +kernel) (a_cons (x_var (i := 2)) a_nil)) x_int) (s_one (s_ret (x_makeSC (ok_Field___init__ T) rfl T.g_Field hr (by decide) (passX (takes_of rfl rfl rfl rfl)) (a_cons (x_var (i := 1)) (a_cons (x_sub rfl hu65 (x_var (i := 2)) x_int) (a_cons (x_sub rfl hu65 (x_var (i := 2)) x_int) (a_cons (x_sub rfl hu65 (x_var (i := 2)) x_int) (a_cons (x_sub rfl hu65 (x_var (i := 2)) x_int) a_nil))))) (k_cons (x_var (i := 3)) k_nil) a_len1))) s_nil) (s_cons (s_if (b_cmp (o_eqF rfl hu64) (x_blt (c_len rfl) T.n_len (by decide +kernel) (a_cons (x_var (i := 2)) a_nil)) x_int) (s_one (s_ret (x_makeSC (ok_Field___init__ T) rfl T.g_Field hr (by decide) (passX (takes_of rfl rfl rfl rfl)) (a_cons (x_var (i := 1)) (a_cons (x_sub rfl hu65 (x_var (i := 2)) x_int) (a_cons (x_sub rfl hu65 (x_var (i := 2)) x_int) (a_cons (x_sub rfl hu65 (x_var (i := 2)) x_int) (a_cons (x_sub rfl hu65 (x_var (i := 2)) x_int) (a_cons (x_sub rfl hu65 (x_var (i := 2)) x_int) a_nil)))))) (k_cons (x_var (i := 3)) k_nil) a_len1))) s_nil) (s_one (s_ret (x_makeSC (ok_Field___init__ T) rfl T.g_Field hr (by decide) (passX (takes_of rfl rfl rfl rfl)) (a_cons (x_var (i := 1)) (a_cons (x_sub rfl hu65 (x_var (i := 2)) x_int) (a_cons (x_sub rfl hu65 (x_var (i := 2)) x_int) (a_cons (x_sub rfl hu65 (x_var (i := 2)) x_int) (a_cons (x_sub rfl hu65 (x_var (i := 2)) x_int) (a_cons (x_sub rfl hu65 (x_var (i := 2)) x_int) (a_cons (x_sub rfl hu65 (x_var (i := 2)) x_int) a_nil))))))) (k_cons (x_var (i := 3)) k_nil) a_len1))))))))))
def F__law_field : List T → Sto → Z T := defF fnX 1 4 b__law_field
theorem ok__law_field (T : Tx K mg ca) : Cal P w K mg base ca fnX xn "_law_field" 5 1 F__law_field :=
  cal_of (k := 4) (N := (["_law_row_here", "_law_side", "_law_aims", "_law_is_end"] : List Str)) T.d__law_field sc__law_field rfl (by decide) (fun _ _ _ _ _ _ us hl => match us, hl with | [_], _ => rfl) fun f l cdv A outer s H W hr => by
    have hu65 := hu_of hr
    have hu64 := Nat.lt_of_succ_lt hu65
    have nd := nd__law_field
    exact d__law_field T l hr hu65 hu64 nd

abbrev s_Field_targets : Stmt := inClass (top 15) 2
def b_Field_targets : Fs := (sRet (v1 (hFld fnX 0 "_targets") (vVar 0)))
theorem nd_Field_targets : (["self"] : List Str).Nodup := by decide +kernel
theorem sc_Field_targets : FnScope (["self"] : List Str) (["self"] : List Str) (defScope s_Field_targets) := ⟨rfl, rfl, rfl, nd_Field_targets, rfl, by decide +kernel, by decide +kernel⟩
theorem d_Field_targets (T : Tx K mg ca) (l : List Addr) {f : Addr} {cdv : Value} {A : Around} {outer : List Env} {s : Shared} {H : Hp} {W : XK} (hr : Room 0 (A.deeper (envOfC "Field.targets" (defScope s_Field_targets) s.heap.objs.size f cdv))) (hu65 : (A.deeper (envOfC "Field.targets" (defScope s_Field_targets) s.heap.objs.size f cdv)).units + 65 < cLine) (hu64 : (A.deeper (envOfC "Field.targets" (defScope s_Field_targets) s.heap.objs.size f cdv)).units + 64 < cLine) (nd : (["self"] : List Str).Nodup) :
    PSs (cxOf (L2.CX P w) P w K mg base (["self"] : List Str) "Field.targets" (defScope s_Field_targets) f cdv A outer s H W) (defBody s_Field_targets) (tS ⟨K, ca, fnX, xn, l⟩ W b_Field_targets) :=
  (s_one (s_ret (x_fld 0 T.cl_0 T.na_0__targets (x_var (i := 0)))))
def F_Field_targets : List T → Sto → Z T := defF fnX 1 1 b_Field_targets
theorem ok_Field_targets (T : Tx K mg ca) : PropP P w K mg base ca fnX xn 0 "targets" 1 F_Field_targets :=
  propP_of (k := 0) (N := (["self"] : List Str)) T.p_Field_targets sc_Field_targets rfl (by decide) (fun _ _ _ _ _ _ us hl => match us, hl with | [_], _ => rfl) fun f l cdv A outer s H W hr => by
    have hu65 := hu_of hr
    have hu64 := Nat.lt_of_succ_lt hu65
    have nd := nd_Field_targets
    exact d_Field_targets T l hr hu65 hu64 nd

abbrev s_is_field_within : Stmt := top 18
def q_is_field_within_1 : Fx := (vLc [2] (iTupF (v1 (hProp fnX 0 F_Field_targets) (vVar 0))) (gN 2) bYes (v2 (hIn true) (vVar 2) (vVar 1)))
def b_is_field_within : Fs := (sRet (vAnd (v1 (hIsiC 0 []) (vVar 0)) (vA (hAll fun bs => bs.all id) (aCons q_is_field_within_1 aNil))))
theorem nd_is_field_within : (["value", "names", "target"] : List Str).Nodup := by decide +kernel
theorem sc_is_field_within : FnScope (["value", "names", "target"] : List Str) (["value", "names"] : List Str) (defScope s_is_field_within) := ⟨rfl, rfl, rfl, nd_is_field_within, rfl, by decide +kernel, by decide +kernel⟩
theorem d_is_field_within (T : Tx K mg ca) (l : List Addr) {f : Addr} {cdv : Value} {A : Around} {outer : List Env} {s : Shared} {H : Hp} {W : XK} (hr : Room 2 (A.deeper (envOfC "is_field_within" (defScope s_is_field_within) s.heap.objs.size f cdv))) (hu65 : (A.deeper (envOfC "is_field_within" (defScope s_is_field_within) s.heap.objs.size f cdv)).units + 65 < cLine) (hu64 : (A.deeper (envOfC "is_field_within" (defScope s_is_field_within) s.heap.objs.size f cdv)).units + 64 < cLine) (nd : (["value", "names", "target"] : List Str).Nodup) :
    PSs (cxOf (L2.CX P w) P w K mg base (["value", "names", "target"] : List Str) "is_field_within" (defScope s_is_field_within) f cdv A outer s H W) (defBody s_is_field_within) (tS ⟨K, ca, fnX, xn, l⟩ W b_is_field_within) :=
  (s_one (s_ret (x_and (x_isiC 0 [] rfl T.ci_0 (fun c h => nomatch h) T.n_isinstance T.g_Field (x_var (i := 0))) (x_one (x_blt (c_all rfl rfl) T.n_all (by decide +kernel) (a_cons (x_lc (own := [("target", 2)]) rfl nd (i_tup rfl (x_propC (ok_Field_targets T) rfl T.cl_0 hr (by decide) (x_var (i := 0)))) (blkOk_by (N := ["value", "names", "target"]) (sc := defScope s_is_field_within) (by decide +kernel)) (fun l s H C cl fp => (g_name (i := 2) nd)) (fun l s H C cl fp => q_nil) (fun l s H C cl fp => (x_cmp (o_in rfl hu65) (x_var (i := 2)) (x_var (i := 1))))) a_nil))))))
def F_is_field_within : List T → Sto → Z T := defF fnX 2 3 b_is_field_within
theorem ok_is_field_within (T : Tx K mg ca) : Cal P w K mg base ca fnX xn "is_field_within" 3 2 F_is_field_within :=
  cal_of (k := 2) (N := (["value", "names", "target"] : List Str)) T.d_is_field_within sc_is_field_within rfl (by decide) (fun _ _ _ _ _ _ us hl => match us, hl with | [_, _], _ => rfl) fun f l cdv A outer s H W hr => by
    have hu65 := hu_of hr
    have hu64 := Nat.lt_of_succ_lt hu65
    have nd := nd_is_field_within
    exact d_is_field_within T l hr hu65 hu64 nd

abbrev s_check_fields : Stmt := top 17
def q_check_fields_1 : Fx := (vLcD [2] (pVar 0) (gN 2) (bOf (vA F_is_name (aCons (vVar 2) aNil))) (vVar 2))
def b_check_fields_2 : Fs := (sIf (bOr (bNot (bOf (vA F_is_name (aCons (vVar 2) aNil)))) (bNot (bOf (vA F_is_field_within (aCons (v2 hIx (vVar 0) (vVar 2)) (aCons (vVar 1) aNil)))))) sBad sNext)
def b_check_fields : Fs := (sSeq (sIf (bOr (bNot (bOf (v1 (hIsi .dict []) (vVar 0)))) (bNot (bOf (v3 hLe hLe (vC (.int 1)) (vA hLen (aCons (vVar 0) aNil)) (vC (.int 8)))))) sBad sNext) (sSeq (sAsg q_check_fields_1 (gN 1)) (sForD (pVar 0) (gN 2) b_check_fields_2)))
theorem nd_check_fields : (["fields", "names", "key"] : List Str).Nodup := by decide +kernel
theorem sc_check_fields : FnScope (["fields", "names", "key"] : List Str) (["fields"] : List Str) (defScope s_check_fields) := ⟨rfl, rfl, rfl, nd_check_fields, rfl, by decide +kernel, by decide +kernel⟩
theorem d_check_fields (T : Tx K mg ca) (l : List Addr) {f : Addr} {cdv : Value} {A : Around} {outer : List Env} {s : Shared} {H : Hp} {W : XK} (hr : Room 3 (A.deeper (envOfC "check_fields" (defScope s_check_fields) s.heap.objs.size f cdv))) (hu65 : (A.deeper (envOfC "check_fields" (defScope s_check_fields) s.heap.objs.size f cdv)).units + 65 < cLine) (hu64 : (A.deeper (envOfC "check_fields" (defScope s_check_fields) s.heap.objs.size f cdv)).units + 64 < cLine) (nd : (["fields", "names", "key"] : List Str).Nodup) :
    PSs (cxOf (L2.CX P w) P w K mg base (["fields", "names", "key"] : List Str) "check_fields" (defScope s_check_fields) f cdv A outer s H W) (defBody s_check_fields) (tS ⟨K, ca, fnX, xn, l⟩ W b_check_fields) :=
  (s_cons (s_if (L2.PW.pt (w_or (b_not (b_val (x_isi .dict [] rfl (fun c h => nomatch h) T.n_isinstance T.n_dict (by decide +kernel) (x_var (i := 0))))) (w_1 (b_not (b_chain (o_le) (o_le) x_int (x_blt (c_len rfl) T.n_len (by decide +kernel) (a_cons (x_var (i := 0)) a_nil)) (x_gint T.c_MOST_FIELDS.choose_spec)))))) (s_one s_never) s_nil) (s_cons (s_setLcD (own := [("key", 2)]) (i := 1) rfl nd rfl rfl rfl (pe_var (i := 0) rfl (by first | exact Or.inl rfl | exact Or.inr (Or.inl rfl) | exact Or.inr (Or.inr rfl)) (by decide) (by decide)) p_var (blkOk_by (N := ["fields", "names", "key"]) (sc := defScope s_check_fields) (by decide +kernel)) (fun l s H C cl fp => (g_name (i := 2) nd)) (fun l s H C cl fp => (q_one (b_val (x_callC (ok_is_name T) rfl hr (by decide) pass0 (a_cons (x_var (i := 2)) a_nil))))) (fun l s H C cl fp => (x_var (i := 2)))) (s_one (s_forD (passes_of rfl) rfl (pe_var (i := 0) rfl (by first | exact Or.inl rfl | exact Or.inr (Or.inl rfl) | exact Or.inr (Or.inr rfl)) (by decide) (by decide)) p_var (g_name (i := 2) nd) (s_one (s_if (L2.PW.pt (w_or (b_not (b_val (x_callC (ok_is_name T) rfl hr (by decide) (passX (takes_of rfl rfl rfl rfl)) (a_cons (x_var (i := 2)) a_nil)))) (w_1 (b_not (b_val (x_callC (ok_is_field_within T) rfl hr (by decide) (passX (takes_of rfl rfl rfl rfl)) (a_cons (x_sub rfl hu65 (x_var (i := 0)) (x_var (i := 2))) (a_cons (x_var (i := 1)) a_nil)))))))) (s_one s_never) s_nil))))))
def F_check_fields : List T → Sto → Z T := defF fnX 1 3 b_check_fields
theorem ok_check_fields (T : Tx K mg ca) : Cal P w K mg base ca fnX xn "check_fields" 4 1 F_check_fields :=
  cal_of (k := 3) (N := (["fields", "names", "key"] : List Str)) T.d_check_fields sc_check_fields rfl (by decide) (fun _ _ _ _ _ _ us hl => match us, hl with | [_], _ => rfl) fun f l cdv A outer s H W hr => by
    have hu65 := hu_of hr
    have hu64 := Nat.lt_of_succ_lt hu65
    have nd := nd_check_fields
    exact d_check_fields T l hr hu65 hu64 nd

abbrev s_is_pair_of_strings : Stmt := top 22
def b_is_pair_of_strings : Fs := (sSeq (sIf (bOr (bNot (bOf (v1 (hIsi .tuple []) (vVar 0)))) (bOf (v2 (hEqF false) (vA hLen (aCons (vVar 0) aNil)) (vC (.int 2))))) (sRet (vC (.bl false))) sNext) (sRet (vAnd (v1 (hIsi .str []) (v2 hIx (vVar 0) (vC (.int 0)))) (v1 (hIsi .str []) (v2 hIx (vVar 0) (vC (.int 1)))))))
theorem nd_is_pair_of_strings : (["value"] : List Str).Nodup := by decide +kernel
theorem sc_is_pair_of_strings : FnScope (["value"] : List Str) (["value"] : List Str) (defScope s_is_pair_of_strings) := ⟨rfl, rfl, rfl, nd_is_pair_of_strings, rfl, by decide +kernel, by decide +kernel⟩
theorem d_is_pair_of_strings (T : Tx K mg ca) (l : List Addr) {f : Addr} {cdv : Value} {A : Around} {outer : List Env} {s : Shared} {H : Hp} {W : XK} (hr : Room 0 (A.deeper (envOfC "is_pair_of_strings" (defScope s_is_pair_of_strings) s.heap.objs.size f cdv))) (hu65 : (A.deeper (envOfC "is_pair_of_strings" (defScope s_is_pair_of_strings) s.heap.objs.size f cdv)).units + 65 < cLine) (hu64 : (A.deeper (envOfC "is_pair_of_strings" (defScope s_is_pair_of_strings) s.heap.objs.size f cdv)).units + 64 < cLine) (nd : (["value"] : List Str).Nodup) :
    PSs (cxOf (L2.CX P w) P w K mg base (["value"] : List Str) "is_pair_of_strings" (defScope s_is_pair_of_strings) f cdv A outer s H W) (defBody s_is_pair_of_strings) (tS ⟨K, ca, fnX, xn, l⟩ W b_is_pair_of_strings) :=
  (s_cons (s_if (L2.PW.pt (w_or (b_not (b_val (x_isi .tuple [] rfl (fun c h => nomatch h) T.n_isinstance T.n_tuple (by decide +kernel) (x_var (i := 0))))) (w_1 (b_cmp (o_neF rfl hu64) (x_blt (c_len rfl) T.n_len (by decide +kernel) (a_cons (x_var (i := 0)) a_nil)) x_int)))) (s_one (s_ret x_bl)) s_nil) (s_one (s_ret (x_and (x_isi .str [] rfl (fun c h => nomatch h) T.n_isinstance T.n_str (by decide +kernel) (x_sub rfl hu65 (x_var (i := 0)) x_int)) (x_one (x_isi .str [] rfl (fun c h => nomatch h) T.n_isinstance T.n_str (by decide +kernel) (x_sub rfl hu65 (x_var (i := 0)) x_int)))))))
def F_is_pair_of_strings : List T → Sto → Z T := defF fnX 1 1 b_is_pair_of_strings
theorem ok_is_pair_of_strings (T : Tx K mg ca) : Cal P w K mg base ca fnX xn "is_pair_of_strings" 1 1 F_is_pair_of_strings :=
  cal_of (k := 0) (N := (["value"] : List Str)) T.d_is_pair_of_strings sc_is_pair_of_strings rfl (by decide) (fun _ _ _ _ _ _ us hl => match us, hl with | [_], _ => rfl) fun f l cdv A outer s H W hr => by
    have hu65 := hu_of hr
    have hu64 := Nat.lt_of_succ_lt hu65
    have nd := nd_is_pair_of_strings
    exact d_is_pair_of_strings T l hr hu65 hu64 nd

abbrev s_Field___contains__ : Stmt := inClass (top 15) 4
def b_Field___contains__ : Fs := (sRet (vAnd (v1 (hIsi .str []) (vVar 1)) (v2 (hIn true) (vVar 1) (v1 (hFld fnX 0 "_targets") (vVar 0)))))
theorem nd_Field___contains__ : (["self", "x"] : List Str).Nodup := by decide +kernel
theorem sc_Field___contains__ : FnScope (["self", "x"] : List Str) (["self", "x"] : List Str) (defScope s_Field___contains__) := ⟨rfl, rfl, rfl, nd_Field___contains__, rfl, by decide +kernel, by decide +kernel⟩
theorem d_Field___contains__ (T : Tx K mg ca) (l : List Addr) {f : Addr} {cdv : Value} {A : Around} {outer : List Env} {s : Shared} {H : Hp} {W : XK} (hr : Room 0 (A.deeper (envOfC "Field.__contains__" (defScope s_Field___contains__) s.heap.objs.size f cdv))) (hu65 : (A.deeper (envOfC "Field.__contains__" (defScope s_Field___contains__) s.heap.objs.size f cdv)).units + 65 < cLine) (hu64 : (A.deeper (envOfC "Field.__contains__" (defScope s_Field___contains__) s.heap.objs.size f cdv)).units + 64 < cLine) (nd : (["self", "x"] : List Str).Nodup) :
    PSs (cxOf (L2.CX P w) P w K mg base (["self", "x"] : List Str) "Field.__contains__" (defScope s_Field___contains__) f cdv A outer s H W) (defBody s_Field___contains__) (tS ⟨K, ca, fnX, xn, l⟩ W b_Field___contains__) :=
  (s_one (s_ret (x_and (x_isi .str [] rfl (fun c h => nomatch h) T.n_isinstance T.n_str (by decide +kernel) (x_var (i := 1))) (x_one (x_cmp (o_in rfl hu65) (x_var (i := 1)) (x_fld 0 T.cl_0 T.na_0__targets (x_var (i := 0))))))))
def F_Field___contains__ : List T → Sto → Z T := defF fnX 2 2 b_Field___contains__
theorem ok_Field___contains__ (T : Tx K mg ca) : OwnP P w K mg base ca fnX xn 0 "__contains__" 1 2 F_Field___contains__ :=
  ownP_of (k := 0) (N := (["self", "x"] : List Str)) T.m_Field___contains__ sc_Field___contains__ rfl (by decide) (fun _ _ _ _ _ _ us hl => match us, hl with | [_, _], _ => rfl) fun f l cdv A outer s H W hr => by
    have hu65 := hu_of hr
    have hu64 := Nat.lt_of_succ_lt hu65
    have nd := nd_Field___contains__
    exact d_Field___contains__ T l hr hu65 hu64 nd

abbrev s_is_move : Stmt := top 20
def b_is_move : Fs := (sRet (vAnd (vA F_is_pair_of_strings (aCons (vVar 1) aNil)) (vAnd (v2 (hIn true) (v2 hIx (vVar 1) (vC (.int 0))) (vVar 0)) (v2 (hInO fnX 0 (fun b => b) F_Field___contains__) (v2 hIx (vVar 1) (vC (.int 1))) (v2 hIx (vVar 0) (v2 hIx (vVar 1) (vC (.int 0))))))))
theorem nd_is_move : (["fields", "value"] : List Str).Nodup := by decide +kernel
theorem sc_is_move : FnScope (["fields", "value"] : List Str) (["fields", "value"] : List Str) (defScope s_is_move) := ⟨rfl, rfl, rfl, nd_is_move, rfl, by decide +kernel, by decide +kernel⟩
theorem d_is_move (T : Tx K mg ca) (l : List Addr) {f : Addr} {cdv : Value} {A : Around} {outer : List Env} {s : Shared} {H : Hp} {W : XK} (hr : Room 1 (A.deeper (envOfC "is_move" (defScope s_is_move) s.heap.objs.size f cdv))) (hu65 : (A.deeper (envOfC "is_move" (defScope s_is_move) s.heap.objs.size f cdv)).units + 65 < cLine) (hu64 : (A.deeper (envOfC "is_move" (defScope s_is_move) s.heap.objs.size f cdv)).units + 64 < cLine) (nd : (["fields", "value"] : List Str).Nodup) :
    PSs (cxOf (L2.CX P w) P w K mg base (["fields", "value"] : List Str) "is_move" (defScope s_is_move) f cdv A outer s H W) (defBody s_is_move) (tS ⟨K, ca, fnX, xn, l⟩ W b_is_move) :=
  (s_one (s_ret (x_and (x_callC (ok_is_pair_of_strings T) rfl hr (by decide) (passX (takes_of rfl rfl rfl rfl)) (a_cons (x_var (i := 1)) a_nil)) (x_and (x_cmp (o_in rfl hu65) (x_sub rfl hu65 (x_var (i := 1)) x_int) (x_var (i := 0))) (x_one (x_cmp (o_inO ((ok_Field___contains__ T).at rfl) (hr.mono (by decide)) (passX (takes_of rfl rfl rfl rfl))) (x_sub rfl hu65 (x_var (i := 1)) x_int) (x_sub rfl hu65 (x_var (i := 0)) (x_sub rfl hu65 (x_var (i := 1)) x_int))))))))
def F_is_move : List T → Sto → Z T := defF fnX 2 2 b_is_move
theorem ok_is_move (T : Tx K mg ca) : Cal P w K mg base ca fnX xn "is_move" 2 2 F_is_move :=
  cal_of (k := 1) (N := (["fields", "value"] : List Str)) T.d_is_move sc_is_move rfl (by decide) (fun _ _ _ _ _ _ us hl => match us, hl with | [_, _], _ => rfl) fun f l cdv A outer s H W hr => by
    have hu65 := hu_of hr
    have hu64 := Nat.lt_of_succ_lt hu65
    have nd := nd_is_move
    exact d_is_move T l hr hu65 hu64 nd

abbrev s_is_cost : Stmt := top 21
def b_is_cost : Fs := (sRet (vAnd (vA F_is_number (aCons (vVar 0) aNil)) (v3 hLe hLe (vC (.int 1)) (vVar 0) (vC (.int 9)))))
theorem nd_is_cost : (["value"] : List Str).Nodup := by decide +kernel
theorem sc_is_cost : FnScope (["value"] : List Str) (["value"] : List Str) (defScope s_is_cost) := ⟨rfl, rfl, rfl, nd_is_cost, rfl, by decide +kernel, by decide +kernel⟩
theorem d_is_cost (T : Tx K mg ca) (l : List Addr) {f : Addr} {cdv : Value} {A : Around} {outer : List Env} {s : Shared} {H : Hp} {W : XK} (hr : Room 1 (A.deeper (envOfC "is_cost" (defScope s_is_cost) s.heap.objs.size f cdv))) (hu65 : (A.deeper (envOfC "is_cost" (defScope s_is_cost) s.heap.objs.size f cdv)).units + 65 < cLine) (hu64 : (A.deeper (envOfC "is_cost" (defScope s_is_cost) s.heap.objs.size f cdv)).units + 64 < cLine) (nd : (["value"] : List Str).Nodup) :
    PSs (cxOf (L2.CX P w) P w K mg base (["value"] : List Str) "is_cost" (defScope s_is_cost) f cdv A outer s H W) (defBody s_is_cost) (tS ⟨K, ca, fnX, xn, l⟩ W b_is_cost) :=
  (s_one (s_ret (x_and (x_callC (ok_is_number T) rfl hr (by decide) (passX (takes_of rfl rfl rfl rfl)) (a_cons (x_var (i := 0)) a_nil)) (x_one (x_chain (o_le) (o_le) x_int (x_var (i := 0)) (x_gint T.c_HIGHEST_COST.choose_spec))))))
def F_is_cost : List T → Sto → Z T := defF fnX 1 1 b_is_cost
theorem ok_is_cost (T : Tx K mg ca) : Cal P w K mg base ca fnX xn "is_cost" 2 1 F_is_cost :=
  cal_of (k := 1) (N := (["value"] : List Str)) T.d_is_cost sc_is_cost rfl (by decide) (fun _ _ _ _ _ _ us hl => match us, hl with | [_], _ => rfl) fun f l cdv A outer s H W hr => by
    have hu65 := hu_of hr
    have hu64 := Nat.lt_of_succ_lt hu65
    have nd := nd_is_cost
    exact d_is_cost T l hr hu65 hu64 nd

abbrev s_are_prices : Stmt := top 19
def q_are_prices_1 : Fx := (vLcD [2] (pVar 1) (gN 2) bYes (vAnd (vA F_is_move (aCons (vVar 0) (aCons (vVar 2) aNil))) (vA F_is_cost (aCons (v2 hIx (vVar 1) (vVar 2)) aNil))))
def b_are_prices : Fs := (sSeq (sIf (bOr (bNot (bOf (v1 (hIsi .dict []) (vVar 1)))) (bOf (v2 hGt (vA hLen (aCons (vVar 1) aNil)) (vC (.int 6))))) (sRet (vC (.bl false))) sNext) (sRet (vA (hAll fun bs => bs.all id) (aCons q_are_prices_1 aNil))))
theorem nd_are_prices : (["fields", "prices", "move"] : List Str).Nodup := by decide +kernel
theorem sc_are_prices : FnScope (["fields", "prices", "move"] : List Str) (["fields", "prices"] : List Str) (defScope s_are_prices) := ⟨rfl, rfl, rfl, nd_are_prices, rfl, by decide +kernel, by decide +kernel⟩
theorem d_are_prices (T : Tx K mg ca) (l : List Addr) {f : Addr} {cdv : Value} {A : Around} {outer : List Env} {s : Shared} {H : Hp} {W : XK} (hr : Room 2 (A.deeper (envOfC "are_prices" (defScope s_are_prices) s.heap.objs.size f cdv))) (hu65 : (A.deeper (envOfC "are_prices" (defScope s_are_prices) s.heap.objs.size f cdv)).units + 65 < cLine) (hu64 : (A.deeper (envOfC "are_prices" (defScope s_are_prices) s.heap.objs.size f cdv)).units + 64 < cLine) (nd : (["fields", "prices", "move"] : List Str).Nodup) :
    PSs (cxOf (L2.CX P w) P w K mg base (["fields", "prices", "move"] : List Str) "are_prices" (defScope s_are_prices) f cdv A outer s H W) (defBody s_are_prices) (tS ⟨K, ca, fnX, xn, l⟩ W b_are_prices) :=
  (s_cons (s_if (L2.PW.pt (w_or (b_not (b_val (x_isi .dict [] rfl (fun c h => nomatch h) T.n_isinstance T.n_dict (by decide +kernel) (x_var (i := 1))))) (w_1 (b_cmp (o_gt) (x_blt (c_len rfl) T.n_len (by decide +kernel) (a_cons (x_var (i := 1)) a_nil)) (x_gint T.c_MOST_PRICES.choose_spec))))) (s_one (s_ret x_bl)) s_nil) (s_one (s_ret (x_blt (c_all rfl rfl) T.n_all (by decide +kernel) (a_cons (x_lcD (own := [("move", 2)]) rfl nd (pe_var (i := 1) rfl (by first | exact Or.inl rfl | exact Or.inr (Or.inl rfl) | exact Or.inr (Or.inr rfl)) (by decide) (by decide)) p_var (blkOk_by (N := ["fields", "prices", "move"]) (sc := defScope s_are_prices) (by decide +kernel)) (fun l s H C cl fp => (g_name (i := 2) nd)) (fun l s H C cl fp => q_nil) (fun l s H C cl fp => (x_and (x_callC (ok_is_move T) rfl hr (by decide) pass0 (a_cons (x_var (i := 0)) (a_cons (x_var (i := 2)) a_nil))) (x_one (x_callC (ok_is_cost T) rfl hr (by decide) pass0 (a_cons (x_sub rfl hu65 (x_var (i := 1)) (x_var (i := 2))) a_nil)))))) a_nil)))))
def F_are_prices : List T → Sto → Z T := defF fnX 2 3 b_are_prices
theorem ok_are_prices (T : Tx K mg ca) : Cal P w K mg base ca fnX xn "are_prices" 3 2 F_are_prices :=
  cal_of (k := 2) (N := (["fields", "prices", "move"] : List Str)) T.d_are_prices sc_are_prices rfl (by decide) (fun _ _ _ _ _ _ us hl => match us, hl with | [_, _], _ => rfl) fun f l cdv A outer s H W hr => by
    have hu65 := hu_of hr
    have hu64 := Nat.lt_of_succ_lt hu65
    have nd := nd_are_prices
    exact d_are_prices T l hr hu65 hu64 nd

abbrev s_Board___init__ : Stmt := inClass (top 16) 0
def q_Board___init___1 : Fx := (vDcD [4] (pVar 1) (gN 4) bYes (vVar 4) (v2 hIx (vVar 1) (vVar 4)))
def q_Board___init___2 : Fx := (vEcD [5] (pVar 3) (gN 5) bYes (vVar 5) (v2 hIx (vVar 3) (vVar 5)))
def b_Board___init__ : Fs := (sSeq (sExpr (vA F_check_fields (aCons (vVar 1) aNil))) (sSeq (sIf (bOr (bNot (bOf (v1 (hIsi .str []) (vVar 2)))) (bOf (v2 (hIn false) (vVar 2) (vVar 1)))) sBad sNext) (sSeq (sIf (bNot (bOf (vA F_are_prices (aCons (vVar 1) (aCons (vVar 3) aNil))))) sBad sNext) (sSeq (sFput 1 "_fields" (vVar 0) q_Board___init___1) (sSeq (sFput 1 "_start" (vVar 0) (vVar 2)) (sFput 1 "_prices" (vVar 0) q_Board___init___2))))))
theorem nd_Board___init__ : (["self", "fields", "start", "prices", "name", "move"] : List Str).Nodup := by decide +kernel
theorem sc_Board___init__ : FnScope (["self", "fields", "start", "prices", "name", "move"] : List Str) (["self", "fields", "start", "prices"] : List Str) (defScope s_Board___init__) := ⟨rfl, rfl, rfl, nd_Board___init__, rfl, by decide +kernel, by decide +kernel⟩
theorem d_Board___init__ (T : Tx K mg ca) (l : List Addr) {f : Addr} {cdv : Value} {A : Around} {outer : List Env} {s : Shared} {H : Hp} {W : XK} (hr : Room 4 (A.deeper (envOfC "Board.__init__" (defScope s_Board___init__) s.heap.objs.size f cdv))) (hu65 : (A.deeper (envOfC "Board.__init__" (defScope s_Board___init__) s.heap.objs.size f cdv)).units + 65 < cLine) (hu64 : (A.deeper (envOfC "Board.__init__" (defScope s_Board___init__) s.heap.objs.size f cdv)).units + 64 < cLine) (nd : (["self", "fields", "start", "prices", "name", "move"] : List Str).Nodup) :
    PSs (cxOf (L2.CX P w) P w K mg base (["self", "fields", "start", "prices", "name", "move"] : List Str) "Board.__init__" (defScope s_Board___init__) f cdv A outer s H W) (defBody s_Board___init__) (tS ⟨K, ca, fnX, xn, l⟩ W b_Board___init__) :=
  (s_cons (s_expr (x_callC (ok_check_fields T) rfl hr (by decide) (passX (takes_of rfl rfl rfl rfl)) (a_cons (x_var (i := 1)) a_nil))) (s_cons (s_if (L2.PW.pt (w_or (b_not (b_val (x_isi .str [] rfl (fun c h => nomatch h) T.n_isinstance T.n_str (by decide +kernel) (x_var (i := 2))))) (w_1 (b_cmp (o_notin rfl hu65) (x_var (i := 2)) (x_var (i := 1)))))) (s_one s_never) s_nil) (s_cons (s_if (b_not (b_val (x_callC (ok_are_prices T) rfl hr (by decide) (passX (takes_of rfl rfl rfl rfl)) (a_cons (x_var (i := 1)) (a_cons (x_var (i := 3)) a_nil))))) (s_one s_never) s_nil) (s_cons (s_fput 1 T.cl_1 T.na_1__fields (x_var (i := 0)) (x_dcD (own := [("name", 4)]) rfl nd (pe_var (i := 1) rfl (by first | exact Or.inl rfl | exact Or.inr (Or.inl rfl) | exact Or.inr (Or.inr rfl)) (by decide) (by decide)) p_var (blkOk_by (N := ["self", "fields", "start", "prices", "name", "move"]) (sc := defScope s_Board___init__) (by decide +kernel)) (fun l s H C cl fp => (g_name (i := 4) nd)) (fun l s H C cl fp => q_nil) (fun l s H C cl fp => (x_var (i := 4))) (fun l s H C cl fp => (x_sub rfl hu65 (x_var (i := 1)) (x_var (i := 4)))))) (s_cons (s_fput 1 T.cl_1 T.na_1__start (x_var (i := 0)) (x_var (i := 2))) (s_one (s_fput 1 T.cl_1 T.na_1__prices (x_var (i := 0)) (x_ecD (own := [("move", 5)]) (Nat.lt_of_le_of_lt (Nat.add_le_add_left (by decide) _) hu65) rfl nd (pe_var (i := 3) rfl (by first | exact Or.inl rfl | exact Or.inr (Or.inl rfl) | exact Or.inr (Or.inr rfl)) (by decide) (by decide)) p_var (blkOk_by (N := ["self", "fields", "start", "prices", "name", "move"]) (sc := defScope s_Board___init__) (by decide +kernel)) (fun l s H C cl fp => (g_name (i := 5) nd)) (fun l s H C cl fp => q_nil) (fun l s H C cl fp => (x_var (i := 5))) (fun l s H C cl fp => (x_sub rfl hu65 (x_var (i := 3)) (x_var (i := 5))))))))))))
def F_Board___init__ : List T → Sto → Z T := defF fnX 4 6 b_Board___init__
theorem ok_Board___init__ (T : Tx K mg ca) : MakeP P w K mg base ca fnX xn 1 5 4 F_Board___init__ :=
  makeP_of (k := 4) (N := (["self", "fields", "start", "prices", "name", "move"] : List Str)) T.i_Board sc_Board___init__ rfl (by decide) (fun _ _ _ _ _ _ us hl => match us, hl with | [_, _, _, _], _ => rfl) fun f l cdv A outer s H W hr => by
    have hu65 := hu_of hr
    have hu64 := Nat.lt_of_succ_lt hu65
    have nd := nd_Board___init__
    exact d_Board___init__ T l hr hu65 hu64 nd

abbrev s__law_built : Stmt := top 43
def b__law_built_1 : Fs := (sPut (vVar 1) (v2 hIx (vVar 2) (vC (.int 0))) (vA F__law_field (aCons (vVar 2) aNil)))
def b__law_built : Fs := (sSeq (sAsg vNewKc (gN 1)) (sSeq (sFor (iSeq (v2 hIx (vVar 0) (vC (.int 0)))) (gN 2) b__law_built_1) (sRet (vA (mkF fnX 1 F_Board___init__) (aCons (vVar 1) (aCons (v2 hIx (vVar 0) (vC (.int 1))) (aCons (vA hDictT (aCons (v2 hIx (vVar 0) (vC (.int 2))) aNil)) aNil)))))))
theorem nd__law_built : (["_law_plan", "_law_rows", "_law_row_here"] : List Str).Nodup := by decide +kernel
theorem sc__law_built : FnScope (["_law_plan", "_law_rows", "_law_row_here"] : List Str) (["_law_plan"] : List Str) (defScope s__law_built) := ⟨rfl, rfl, rfl, nd__law_built, rfl, by decide +kernel, by decide +kernel⟩
theorem d__law_built (T : Tx K mg ca) (l : List Addr) {f : Addr} {cdv : Value} {A : Around} {outer : List Env} {s : Shared} {H : Hp} {W : XK} (hr : Room 6 (A.deeper (envOfC "_law_built" (defScope s__law_built) s.heap.objs.size f cdv))) (hu65 : (A.deeper (envOfC "_law_built" (defScope s__law_built) s.heap.objs.size f cdv)).units + 65 < cLine) (hu64 : (A.deeper (envOfC "_law_built" (defScope s__law_built) s.heap.objs.size f cdv)).units + 64 < cLine) (nd : (["_law_plan", "_law_rows", "_law_row_here"] : List Str).Nodup) :
    PSs (cxOf (L2.CX P w) P w K mg base (["_law_plan", "_law_rows", "_law_row_here"] : List Str) "_law_built" (defScope s__law_built) f cdv A outer s H W) (defBody s__law_built) (tS ⟨K, ca, fnX, xn, l⟩ W b__law_built) :=
  (s_cons (s_set (i := 1) nd x_newKc) (s_cons (s_for (passes_of rfl) rfl (i_list rfl (x_sub rfl hu65 (x_var (i := 0)) x_int)) (g_name (i := 2) nd) (s_one (s_put hu65 (x_callC (ok__law_field T) rfl hr (by decide) (passX (takes_of rfl rfl rfl rfl)) (a_cons (x_var (i := 2)) a_nil)) (x_var (i := 1)) (x_sub rfl hu65 (x_var (i := 2)) x_int)))) (s_one (s_ret (x_makeC (ok_Board___init__ T) rfl T.g_Board hr (by decide) (passX (takes_of rfl rfl rfl rfl)) (a_cons (x_var (i := 1)) (a_cons (x_sub rfl hu65 (x_var (i := 0)) x_int) (a_cons (x_blty (c_dictT rfl rfl hu65) T.n_dict (by decide +kernel) (a_cons (x_sub rfl hu65 (x_var (i := 0)) x_int) a_nil)) a_nil))))))))
def F__law_built : List T → Sto → Z T := defF fnX 1 3 b__law_built
theorem ok__law_built (T : Tx K mg ca) : Cal P w K mg base ca fnX xn "_law_built" 7 1 F__law_built :=
  cal_of (k := 6) (N := (["_law_plan", "_law_rows", "_law_row_here"] : List Str)) T.d__law_built sc__law_built rfl (by decide) (fun _ _ _ _ _ _ us hl => match us, hl with | [_], _ => rfl) fun f l cdv A outer s H W hr => by
    have hu65 := hu_of hr
    have hu64 := Nat.lt_of_succ_lt hu65
    have nd := nd__law_built
    exact d__law_built T l hr hu65 hu64 nd

abbrev s__law_set : Stmt := top 47
def q__law_set_1 : Fx := (vLc [2, 3] (iSeq (v2 hIx (vVar 1) (vC (.int 2)))) (gT [(gN 2), (gN 3)]) (bOf (v2 (hEqF true) (vA F__law_take (aCons (vVar 0) (aCons (vC (.int 2)) aNil))) (vC (.int 0)))) (vVar 2))
def b__law_set : Fs := (sRet (vA hTuple (aCons q__law_set_1 aNil)))
theorem nd__law_set : (["_law_draws", "_law_plan", "_law_move", "_law_price"] : List Str).Nodup := by decide +kernel
theorem sc__law_set : FnScope (["_law_draws", "_law_plan", "_law_move", "_law_price"] : List Str) (["_law_draws", "_law_plan"] : List Str) (defScope s__law_set) := ⟨rfl, rfl, rfl, nd__law_set, rfl, by decide +kernel, by decide +kernel⟩
theorem d__law_set (T : Tx K mg ca) (l : List Addr) {f : Addr} {cdv : Value} {A : Around} {outer : List Env} {s : Shared} {H : Hp} {W : XK} (hr : Room 1 (A.deeper (envOfC "_law_set" (defScope s__law_set) s.heap.objs.size f cdv))) (hu65 : (A.deeper (envOfC "_law_set" (defScope s__law_set) s.heap.objs.size f cdv)).units + 65 < cLine) (hu64 : (A.deeper (envOfC "_law_set" (defScope s__law_set) s.heap.objs.size f cdv)).units + 64 < cLine) (nd : (["_law_draws", "_law_plan", "_law_move", "_law_price"] : List Str).Nodup) :
    PSs (cxOf (L2.CX P w) P w K mg base (["_law_draws", "_law_plan", "_law_move", "_law_price"] : List Str) "_law_set" (defScope s__law_set) f cdv A outer s H W) (defBody s__law_set) (tS ⟨K, ca, fnX, xn, l⟩ W b__law_set) :=
  (s_one (s_ret (x_blty (c_tuple rfl) T.n_tuple (by decide +kernel) (a_cons (x_lc (own := [("_law_move", 2), ("_law_price", 3)]) rfl nd (i_list rfl (x_sub rfl hu65 (x_var (i := 1)) x_int)) (blkOk_by (N := ["_law_draws", "_law_plan", "_law_move", "_law_price"]) (sc := defScope s__law_set) (by decide +kernel)) (fun l s H C cl fp => (g_tup rfl rfl (gs_cons (g_name (i := 2) nd) (gs_cons (g_name (i := 3) nd) gs_nil)))) (fun l s H C cl fp => (q_one (b_cmp (o_eqF rfl hu64) (x_callC (ok__law_take T) rfl hr (by decide) pass0 (a_cons (x_var (i := 0)) (a_cons x_int a_nil))) x_int))) (fun l s H C cl fp => (x_var (i := 2)))) a_nil))))
def F__law_set : List T → Sto → Z T := defF fnX 2 4 b__law_set
theorem ok__law_set (T : Tx K mg ca) : Cal P w K mg base ca fnX xn "_law_set" 2 2 F__law_set :=
  cal_of (k := 1) (N := (["_law_draws", "_law_plan", "_law_move", "_law_price"] : List Str)) T.d__law_set sc__law_set rfl (by decide) (fun _ _ _ _ _ _ us hl => match us, hl with | [_, _], _ => rfl) fun f l cdv A outer s H W hr => by
    have hu65 := hu_of hr
    have hu64 := Nat.lt_of_succ_lt hu65
    have nd := nd__law_set
    exact d__law_set T l hr hu65 hu64 nd

abbrev s__law_row : Stmt := top 44
def q__law_row_1 : Fx := (vLc [2] (iSeq (v2 hIx (vVar 0) (vC (.int 0)))) (gN 2) (bOf (v2 (hEqF true) (v2 hIx (vVar 2) (vC (.int 0))) (vVar 1))) (vVar 2))
def b__law_row : Fs := (sRet (v2 hIx q__law_row_1 (vC (.int 0))))
theorem nd__law_row : (["_law_plan", "_law_name", "_law_row_here"] : List Str).Nodup := by decide +kernel
theorem sc__law_row : FnScope (["_law_plan", "_law_name", "_law_row_here"] : List Str) (["_law_plan", "_law_name"] : List Str) (defScope s__law_row) := ⟨rfl, rfl, rfl, nd__law_row, rfl, by decide +kernel, by decide +kernel⟩
theorem d__law_row (T : Tx K mg ca) (l : List Addr) {f : Addr} {cdv : Value} {A : Around} {outer : List Env} {s : Shared} {H : Hp} {W : XK} (hr : Room 0 (A.deeper (envOfC "_law_row" (defScope s__law_row) s.heap.objs.size f cdv))) (hu65 : (A.deeper (envOfC "_law_row" (defScope s__law_row) s.heap.objs.size f cdv)).units + 65 < cLine) (hu64 : (A.deeper (envOfC "_law_row" (defScope s__law_row) s.heap.objs.size f cdv)).units + 64 < cLine) (nd : (["_law_plan", "_law_name", "_law_row_here"] : List Str).Nodup) :
    PSs (cxOf (L2.CX P w) P w K mg base (["_law_plan", "_law_name", "_law_row_here"] : List Str) "_law_row" (defScope s__law_row) f cdv A outer s H W) (defBody s__law_row) (tS ⟨K, ca, fnX, xn, l⟩ W b__law_row) :=
  (s_one (s_ret (x_sub rfl hu65 (x_lc (own := [("_law_row_here", 2)]) rfl nd (i_list rfl (x_sub rfl hu65 (x_var (i := 0)) x_int)) (blkOk_by (N := ["_law_plan", "_law_name", "_law_row_here"]) (sc := defScope s__law_row) (by decide +kernel)) (fun l s H C cl fp => (g_name (i := 2) nd)) (fun l s H C cl fp => (q_one (b_cmp (o_eqF rfl hu64) (x_sub rfl hu65 (x_var (i := 2)) x_int) (x_var (i := 1))))) (fun l s H C cl fp => (x_var (i := 2)))) x_int)))
def F__law_row : List T → Sto → Z T := defF fnX 2 3 b__law_row
theorem ok__law_row (T : Tx K mg ca) : Cal P w K mg base ca fnX xn "_law_row" 1 2 F__law_row :=
  cal_of (k := 0) (N := (["_law_plan", "_law_name", "_law_row_here"] : List Str)) T.d__law_row sc__law_row rfl (by decide) (fun _ _ _ _ _ _ us hl => match us, hl with | [_, _], _ => rfl) fun f l cdv A outer s H W hr => by
    have hu65 := hu_of hr
    have hu64 := Nat.lt_of_succ_lt hu65
    have nd := nd__law_row
    exact d__law_row T l hr hu65 hu64 nd

abbrev s__law_ways : Stmt := top 45
def q__law_ways_1 : Fx := (vLc [4] (iSeq (v2 hIx (vVar 0) (vC (.int 0)))) (gN 4) (bAnd (bOf (v2 (hIn true) (v2 hIx (vVar 4) (vC (.int 0))) (vVar 3))) (bOf (v2 (hIn false) (vA hTup (aCons (vVar 2) (aCons (v2 hIx (vVar 4) (vC (.int 0))) aNil))) (vVar 1)))) (v2 hIx (vVar 4) (vC (.int 0))))
def b__law_ways : Fs := (sSeq (sAsg (v2 hIx (vA F__law_row (aCons (vVar 0) (aCons (vVar 2) aNil))) (vC (.int 2))) (gN 3)) (sRet q__law_ways_1))
theorem nd__law_ways : (["_law_plan", "_law_barred", "_law_name", "_law_aims", "_law_row_here"] : List Str).Nodup := by decide +kernel
theorem sc__law_ways : FnScope (["_law_plan", "_law_barred", "_law_name", "_law_aims", "_law_row_here"] : List Str) (["_law_plan", "_law_barred", "_law_name"] : List Str) (defScope s__law_ways) := ⟨rfl, rfl, rfl, nd__law_ways, rfl, by decide +kernel, by decide +kernel⟩
theorem d__law_ways (T : Tx K mg ca) (l : List Addr) {f : Addr} {cdv : Value} {A : Around} {outer : List Env} {s : Shared} {H : Hp} {W : XK} (hr : Room 1 (A.deeper (envOfC "_law_ways" (defScope s__law_ways) s.heap.objs.size f cdv))) (hu65 : (A.deeper (envOfC "_law_ways" (defScope s__law_ways) s.heap.objs.size f cdv)).units + 65 < cLine) (hu64 : (A.deeper (envOfC "_law_ways" (defScope s__law_ways) s.heap.objs.size f cdv)).units + 64 < cLine) (nd : (["_law_plan", "_law_barred", "_law_name", "_law_aims", "_law_row_here"] : List Str).Nodup) :
    PSs (cxOf (L2.CX P w) P w K mg base (["_law_plan", "_law_barred", "_law_name", "_law_aims", "_law_row_here"] : List Str) "_law_ways" (defScope s__law_ways) f cdv A outer s H W) (defBody s__law_ways) (tS ⟨K, ca, fnX, xn, l⟩ W b__law_ways) :=
  (s_cons (s_set (i := 3) nd (x_sub rfl hu65 (x_callC (ok__law_row T) rfl hr (by decide) (passX (takes_of rfl rfl rfl rfl)) (a_cons (x_var (i := 0)) (a_cons (x_var (i := 2)) a_nil))) x_int)) (s_one (s_ret (x_lc (own := [("_law_row_here", 4)]) rfl nd (i_list rfl (x_sub rfl hu65 (x_var (i := 0)) x_int)) (blkOk_by (N := ["_law_plan", "_law_barred", "_law_name", "_law_aims", "_law_row_here"]) (sc := defScope s__law_ways) (by decide +kernel)) (fun l s H C cl fp => (g_name (i := 4) nd)) (fun l s H C cl fp => (q_one (L2.PW.pt (w_and (b_cmp (o_in rfl hu65) (x_sub rfl hu65 (x_var (i := 4)) x_int) (x_var (i := 3))) (w_1 (b_cmp (o_notin rfl hu65) (x_tup (a_cons (x_var (i := 2)) (a_cons (x_sub rfl hu65 (x_var (i := 4)) x_int) a_nil))) (x_var (i := 1)))))))) (fun l s H C cl fp => (x_sub rfl hu65 (x_var (i := 4)) x_int))))))
def F__law_ways : List T → Sto → Z T := defF fnX 3 5 b__law_ways
theorem ok__law_ways (T : Tx K mg ca) : Cal P w K mg base ca fnX xn "_law_ways" 2 3 F__law_ways :=
  cal_of (k := 1) (N := (["_law_plan", "_law_barred", "_law_name", "_law_aims", "_law_row_here"] : List Str)) T.d__law_ways sc__law_ways rfl (by decide) (fun _ _ _ _ _ _ us hl => match us, hl with | [_, _, _], _ => rfl) fun f l cdv A outer s H W hr => by
    have hu65 := hu_of hr
    have hu64 := Nat.lt_of_succ_lt hu65
    have nd := nd__law_ways
    exact d__law_ways T l hr hu65 hu64 nd

abbrev s__law_far : Stmt := top 46
def q__law_far_1 : Fx := (vLc [10] (iSeq (vA F__law_ways (aCons (vVar 0) (aCons (vVar 1) (aCons (vVar 5) aNil))))) (gN 10) bYes (v2 (hIn true) (vVar 10) (vVar 2)))
def b__law_far_2 : Fs := (sSeq (sAsg q__law_far_1 (gN 9)) (sIf (bAnd (bOf (v2 (hIn false) (vVar 5) (vVar 2))) (bOr (bOf (vVar 8)) (bOr (bAnd (bOf (v2 (hEqF true) (vVar 6) (vC (.int 1)))) (bOf (vA (hAll fun bs => bs.any id) (aCons (vVar 9) aNil)))) (bAnd (bOf (v2 (hEqF true) (vVar 6) (vC (.int 2)))) (bOf (vA (hAll fun bs => bs.all id) (aCons (vVar 9) aNil))))))) (sExpr (vAppend (vVar 4) (vVar 5))) sNext))
def b__law_far_3 : Fs := (sPut (vVar 2) (vVar 5) (vVar 3))
def b__law_far_4 : Fs := (sSeq (sAsg (vA hLstC aNil) (gN 4)) (sSeq (sFor (iSeq (v2 hIx (vVar 0) (vC (.int 0)))) (gT [(gN 5), (gN 6), (gN 7), (gN 8)]) b__law_far_2) (sForA (vVar 4) (gN 5) b__law_far_3)))
def b__law_far : Fs := (sSeq (sAsg vNewKc (gN 2)) (sSeq (sFor (iRange1 (aCons (v2 hAddF (vA hLen (aCons (v2 hIx (vVar 0) (vC (.int 0))) aNil)) (vC (.int 1))) aNil)) (gN 3) b__law_far_4) (sRet (vVar 2))))
theorem nd__law_far : (["_law_plan", "_law_barred", "_law_found", "_law_number", "_law_late", "_law_name", "_law_side", "_law_aims", "_law_is_end", "_law_some", "_law_one"] : List Str).Nodup := by decide +kernel
theorem sc__law_far : FnScope (["_law_plan", "_law_barred", "_law_found", "_law_number", "_law_late", "_law_name", "_law_side", "_law_aims", "_law_is_end", "_law_some", "_law_one"] : List Str) (["_law_plan", "_law_barred"] : List Str) (defScope s__law_far) := ⟨rfl, rfl, rfl, nd__law_far, rfl, by decide +kernel, by decide +kernel⟩
theorem d__law_far (T : Tx K mg ca) (l : List Addr) {f : Addr} {cdv : Value} {A : Around} {outer : List Env} {s : Shared} {H : Hp} {W : XK} (hr : Room 2 (A.deeper (envOfC "_law_far" (defScope s__law_far) s.heap.objs.size f cdv))) (hu65 : (A.deeper (envOfC "_law_far" (defScope s__law_far) s.heap.objs.size f cdv)).units + 65 < cLine) (hu64 : (A.deeper (envOfC "_law_far" (defScope s__law_far) s.heap.objs.size f cdv)).units + 64 < cLine) (nd : (["_law_plan", "_law_barred", "_law_found", "_law_number", "_law_late", "_law_name", "_law_side", "_law_aims", "_law_is_end", "_law_some", "_law_one"] : List Str).Nodup) :
    PSs (cxOf (L2.CX P w) P w K mg base (["_law_plan", "_law_barred", "_law_found", "_law_number", "_law_late", "_law_name", "_law_side", "_law_aims", "_law_is_end", "_law_some", "_law_one"] : List Str) "_law_far" (defScope s__law_far) f cdv A outer s H W) (defBody s__law_far) (tS ⟨K, ca, fnX, xn, l⟩ W b__law_far) :=
  (s_cons (s_set (i := 2) nd x_newKc) (s_cons (s_for (passes_of rfl) rfl (i_range1 T.n_range (a_cons (x_bin (o_addF rfl) (x_blt (c_len rfl) T.n_len (by decide +kernel) (a_cons (x_sub rfl hu65 (x_var (i := 0)) x_int) a_nil)) x_int) a_nil)) (g_name (i := 3) nd) (s_cons (s_set (i := 4) nd (x_lstC a_nil)) (s_cons (s_for (passes_of rfl) rfl (i_list rfl (x_sub rfl hu65 (x_var (i := 0)) x_int)) (g_tup rfl rfl (gs_cons (g_name (i := 5) nd) (gs_cons (g_name (i := 6) nd) (gs_cons (g_name (i := 7) nd) (gs_cons (g_name (i := 8) nd) gs_nil))))) (s_cons (s_setLc (own := [("_law_one", 10)]) (i := 9) rfl nd rfl rfl rfl (i_list rfl (x_callC (ok__law_ways T) rfl hr (by decide) (passX (takes_of rfl rfl rfl rfl)) (a_cons (x_var (i := 0)) (a_cons (x_var (i := 1)) (a_cons (x_var (i := 5)) a_nil))))) (blkOk_by (N := ["_law_plan", "_law_barred", "_law_found", "_law_number", "_law_late", "_law_name", "_law_side", "_law_aims", "_law_is_end", "_law_some", "_law_one"]) (sc := defScope s__law_far) (by decide +kernel)) (fun l s H C cl fp => (g_name (i := 10) nd)) (fun l s H C cl fp => q_nil) (fun l s H C cl fp => (x_cmp (o_in rfl hu65) (x_var (i := 10)) (x_var (i := 2))))) (s_one (s_if (L2.PW.pt (w_and (b_cmp (o_notin rfl hu65) (x_var (i := 5)) (x_var (i := 2))) (w_1 (L2.PW.pt (w_or (b_val (x_var (i := 8))) (w_or (L2.PW.pt (w_and (b_cmp (o_eqF rfl hu64) (x_var (i := 6)) x_int) (w_1 (b_val (x_blt (c_any rfl rfl) T.n_any (by decide +kernel) (a_cons (x_var (i := 9)) a_nil)))))) (w_1 (L2.PW.pt (w_and (b_cmp (o_eqF rfl hu64) (x_var (i := 6)) x_int) (w_1 (b_val (x_blt (c_all rfl rfl) T.n_all (by decide +kernel) (a_cons (x_var (i := 9)) a_nil))))))))))))) (s_one (s_expr (x_append (x_var (i := 4)) (x_var (i := 5))))) s_nil)))) (s_one (s_forA (passes_of rfl) rfl rfl (x_var (i := 4)) (g_name (i := 5) nd) (s_one (s_put hu65 (x_var (i := 3)) (x_var (i := 2)) (x_var (i := 5))))))))) (s_one (s_ret (x_var (i := 2))))))
def F__law_far0 : List T → Sto → Z T := defF fnX 2 11 b__law_far
noncomputable def F__law_far : List T → Sto → Z T := Classical.choose (⟨F__law_far0, rfl⟩ : ∃ f, f = F__law_far0)
theorem F__law_far_eq : F__law_far = F__law_far0 := Classical.choose_spec (⟨F__law_far0, rfl⟩ : ∃ f, f = F__law_far0)
theorem ok__law_far (T : Tx K mg ca) : Cal P w K mg base ca fnX xn "_law_far" 3 2 F__law_far := by
  rw [F__law_far_eq]
  exact cal_of (k := 2) (N := (["_law_plan", "_law_barred", "_law_found", "_law_number", "_law_late", "_law_name", "_law_side", "_law_aims", "_law_is_end", "_law_some", "_law_one"] : List Str)) T.d__law_far sc__law_far rfl (by decide) (fun _ _ _ _ _ _ us hl => match us, hl with | [_, _], _ => rfl) fun f l cdv A outer s H W hr => by
    have hu65 := hu_of hr
    have hu64 := Nat.lt_of_succ_lt hu65
    have nd := nd__law_far
    exact d__law_far T l hr hu65 hu64 nd

abbrev s_check_board : Stmt := top 26
def b_check_board : Fs := (sIf (bNot (bOf (v1 (hIsiC 1 []) (vVar 0)))) sBad sNext)
theorem nd_check_board : (["value"] : List Str).Nodup := by decide +kernel
theorem sc_check_board : FnScope (["value"] : List Str) (["value"] : List Str) (defScope s_check_board) := ⟨rfl, rfl, rfl, nd_check_board, rfl, by decide +kernel, by decide +kernel⟩
theorem d_check_board (T : Tx K mg ca) (l : List Addr) {f : Addr} {cdv : Value} {A : Around} {outer : List Env} {s : Shared} {H : Hp} {W : XK} (hr : Room 0 (A.deeper (envOfC "check_board" (defScope s_check_board) s.heap.objs.size f cdv))) (hu65 : (A.deeper (envOfC "check_board" (defScope s_check_board) s.heap.objs.size f cdv)).units + 65 < cLine) (hu64 : (A.deeper (envOfC "check_board" (defScope s_check_board) s.heap.objs.size f cdv)).units + 64 < cLine) (nd : (["value"] : List Str).Nodup) :
    PSs (cxOf (L2.CX P w) P w K mg base (["value"] : List Str) "check_board" (defScope s_check_board) f cdv A outer s H W) (defBody s_check_board) (tS ⟨K, ca, fnX, xn, l⟩ W b_check_board) :=
  (s_one (s_if (b_not (b_val (x_isiC 1 [] rfl T.ci_1 (fun c h => nomatch h) T.n_isinstance T.g_Board (x_var (i := 0))))) (s_one s_never) s_nil))
def F_check_board : List T → Sto → Z T := defF fnX 1 1 b_check_board
theorem ok_check_board (T : Tx K mg ca) : Cal P w K mg base ca fnX xn "check_board" 1 1 F_check_board :=
  cal_of (k := 0) (N := (["value"] : List Str)) T.d_check_board sc_check_board rfl (by decide) (fun _ _ _ _ _ _ us hl => match us, hl with | [_], _ => rfl) fun f l cdv A outer s H W hr => by
    have hu65 := hu_of hr
    have hu64 := Nat.lt_of_succ_lt hu65
    have nd := nd_check_board
    exact d_check_board T l hr hu65 hu64 nd

abbrev s_Board___contains__ : Stmt := inClass (top 16) 6
def b_Board___contains__ : Fs := (sRet (vAnd (vA F_is_pair_of_strings (aCons (vVar 1) aNil)) (v2 (hIn true) (vVar 1) (v1 (hFld fnX 1 "_prices") (vVar 0)))))
theorem nd_Board___contains__ : (["self", "x"] : List Str).Nodup := by decide +kernel
theorem sc_Board___contains__ : FnScope (["self", "x"] : List Str) (["self", "x"] : List Str) (defScope s_Board___contains__) := ⟨rfl, rfl, rfl, nd_Board___contains__, rfl, by decide +kernel, by decide +kernel⟩
theorem d_Board___contains__ (T : Tx K mg ca) (l : List Addr) {f : Addr} {cdv : Value} {A : Around} {outer : List Env} {s : Shared} {H : Hp} {W : XK} (hr : Room 1 (A.deeper (envOfC "Board.__contains__" (defScope s_Board___contains__) s.heap.objs.size f cdv))) (hu65 : (A.deeper (envOfC "Board.__contains__" (defScope s_Board___contains__) s.heap.objs.size f cdv)).units + 65 < cLine) (hu64 : (A.deeper (envOfC "Board.__contains__" (defScope s_Board___contains__) s.heap.objs.size f cdv)).units + 64 < cLine) (nd : (["self", "x"] : List Str).Nodup) :
    PSs (cxOf (L2.CX P w) P w K mg base (["self", "x"] : List Str) "Board.__contains__" (defScope s_Board___contains__) f cdv A outer s H W) (defBody s_Board___contains__) (tS ⟨K, ca, fnX, xn, l⟩ W b_Board___contains__) :=
  (s_one (s_ret (x_and (x_callC (ok_is_pair_of_strings T) rfl hr (by decide) (passX (takes_of rfl rfl rfl rfl)) (a_cons (x_var (i := 1)) a_nil)) (x_one (x_cmp (o_in rfl hu65) (x_var (i := 1)) (x_fld 1 T.cl_1 T.na_1__prices (x_var (i := 0))))))))
def F_Board___contains__ : List T → Sto → Z T := defF fnX 2 2 b_Board___contains__
theorem ok_Board___contains__ (T : Tx K mg ca) : OwnP P w K mg base ca fnX xn 1 "__contains__" 2 2 F_Board___contains__ :=
  ownP_of (k := 1) (N := (["self", "x"] : List Str)) T.m_Board___contains__ sc_Board___contains__ rfl (by decide) (fun _ _ _ _ _ _ us hl => match us, hl with | [_, _], _ => rfl) fun f l cdv A outer s H W hr => by
    have hu65 := hu_of hr
    have hu64 := Nat.lt_of_succ_lt hu65
    have nd := nd_Board___contains__
    exact d_Board___contains__ T l hr hu65 hu64 nd

abbrev s_Board_moves : Stmt := inClass (top 16) 3
def b_Board_moves : Fs := (sRet (vA (orA hList hListD) (aCons (v1 (hFld fnX 1 "_prices") (vVar 0)) aNil)))
theorem nd_Board_moves : (["self"] : List Str).Nodup := by decide +kernel
theorem sc_Board_moves : FnScope (["self"] : List Str) (["self"] : List Str) (defScope s_Board_moves) := ⟨rfl, rfl, rfl, nd_Board_moves, rfl, by decide +kernel, by decide +kernel⟩
theorem d_Board_moves (T : Tx K mg ca) (l : List Addr) {f : Addr} {cdv : Value} {A : Around} {outer : List Env} {s : Shared} {H : Hp} {W : XK} (hr : Room 0 (A.deeper (envOfC "Board.moves" (defScope s_Board_moves) s.heap.objs.size f cdv))) (hu65 : (A.deeper (envOfC "Board.moves" (defScope s_Board_moves) s.heap.objs.size f cdv)).units + 65 < cLine) (hu64 : (A.deeper (envOfC "Board.moves" (defScope s_Board_moves) s.heap.objs.size f cdv)).units + 64 < cLine) (nd : (["self"] : List Str).Nodup) :
    PSs (cxOf (L2.CX P w) P w K mg base (["self"] : List Str) "Board.moves" (defScope s_Board_moves) f cdv A outer s H W) (defBody s_Board_moves) (tS ⟨K, ca, fnX, xn, l⟩ W b_Board_moves) :=
  (s_one (s_ret (x_orA (x_blty (c_list rfl) T.n_list (by decide +kernel) (a_cons (x_fld 1 T.cl_1 T.na_1__prices (x_var (i := 0))) a_nil)) (x_blty (c_listD rfl) T.n_list (by decide +kernel) (a_cons (x_fld 1 T.cl_1 T.na_1__prices (x_var (i := 0))) a_nil)))))
def F_Board_moves : List T → Sto → Z T := defF fnX 1 1 b_Board_moves
theorem ok_Board_moves (T : Tx K mg ca) : PropP P w K mg base ca fnX xn 1 "moves" 1 F_Board_moves :=
  propP_of (k := 0) (N := (["self"] : List Str)) T.p_Board_moves sc_Board_moves rfl (by decide) (fun _ _ _ _ _ _ us hl => match us, hl with | [_], _ => rfl) fun f l cdv A outer s H W hr => by
    have hu65 := hu_of hr
    have hu64 := Nat.lt_of_succ_lt hu65
    have nd := nd_Board_moves
    exact d_Board_moves T l hr hu65 hu64 nd

abbrev s_check_set : Stmt := top 27
def b_check_set_1 : Fs := (sIf (bOf (v2 (hInO fnX 1 (fun b => !b) F_Board___contains__) (vVar 2) (vVar 0))) sBad sNext)
def q_check_set_2 : Fx := (vLc [2] (iSeq (v1 (hProp fnX 1 F_Board_moves) (vVar 0))) (gN 2) (bOf (v2 (hIn true) (vVar 2) (vVar 1))) (vVar 2))
def b_check_set : Fs := (sSeq (sIf (bNot (bOf (v1 (hIsi .tuple []) (vVar 1)))) sBad sNext) (sSeq (sFor (iTupF (vVar 1)) (gN 2) b_check_set_1) (sIf (bOf (v2 (hEqF false) (vA (orA hList hListD) (aCons (vVar 1) aNil)) q_check_set_2)) sBad sNext)))
theorem nd_check_set : (["board", "value", "move"] : List Str).Nodup := by decide +kernel
theorem sc_check_set : FnScope (["board", "value", "move"] : List Str) (["board", "value"] : List Str) (defScope s_check_set) := ⟨rfl, rfl, rfl, nd_check_set, rfl, by decide +kernel, by decide +kernel⟩
theorem d_check_set (T : Tx K mg ca) (l : List Addr) {f : Addr} {cdv : Value} {A : Around} {outer : List Env} {s : Shared} {H : Hp} {W : XK} (hr : Room 2 (A.deeper (envOfC "check_set" (defScope s_check_set) s.heap.objs.size f cdv))) (hu65 : (A.deeper (envOfC "check_set" (defScope s_check_set) s.heap.objs.size f cdv)).units + 65 < cLine) (hu64 : (A.deeper (envOfC "check_set" (defScope s_check_set) s.heap.objs.size f cdv)).units + 64 < cLine) (nd : (["board", "value", "move"] : List Str).Nodup) :
    PSs (cxOf (L2.CX P w) P w K mg base (["board", "value", "move"] : List Str) "check_set" (defScope s_check_set) f cdv A outer s H W) (defBody s_check_set) (tS ⟨K, ca, fnX, xn, l⟩ W b_check_set) :=
  (s_cons (s_if (b_not (b_val (x_isi .tuple [] rfl (fun c h => nomatch h) T.n_isinstance T.n_tuple (by decide +kernel) (x_var (i := 1))))) (s_one s_never) s_nil) (s_cons (s_for (passes_of rfl) rfl (i_tup rfl (x_var (i := 1))) (g_name (i := 2) nd) (s_one (s_if (b_cmp (o_notinO ((ok_Board___contains__ T).at rfl) (hr.mono (by decide)) (passX (takes_of rfl rfl rfl rfl))) (x_var (i := 2)) (x_var (i := 0))) (s_one s_never) s_nil))) (s_one (s_if (b_cmp (o_neF rfl hu64) (x_orA (x_blty (c_list rfl) T.n_list (by decide +kernel) (a_cons (x_var (i := 1)) a_nil)) (x_blty (c_listD rfl) T.n_list (by decide +kernel) (a_cons (x_var (i := 1)) a_nil))) (x_lc (own := [("move", 2)]) rfl nd (i_list rfl (x_propC (ok_Board_moves T) rfl T.cl_1 hr (by decide) (x_var (i := 0)))) (blkOk_by (N := ["board", "value", "move"]) (sc := defScope s_check_set) (by decide +kernel)) (fun l s H C cl fp => (g_name (i := 2) nd)) (fun l s H C cl fp => (q_one (b_cmp (o_in rfl hu65) (x_var (i := 2)) (x_var (i := 1))))) (fun l s H C cl fp => (x_var (i := 2))))) (s_one s_never) s_nil))))
def F_check_set : List T → Sto → Z T := defF fnX 2 3 b_check_set
theorem ok_check_set (T : Tx K mg ca) : Cal P w K mg base ca fnX xn "check_set" 3 2 F_check_set :=
  cal_of (k := 2) (N := (["board", "value", "move"] : List Str)) T.d_check_set sc_check_set rfl (by decide) (fun _ _ _ _ _ _ us hl => match us, hl with | [_, _], _ => rfl) fun f l cdv A outer s H W hr => by
    have hu65 := hu_of hr
    have hu64 := Nat.lt_of_succ_lt hu65
    have nd := nd_check_set
    exact d_check_set T l hr hu65 hu64 nd

abbrev s_Board_names : Stmt := inClass (top 16) 1
def b_Board_names : Fs := (sRet (vA (orA hList hListD) (aCons (v1 (hFld fnX 1 "_fields") (vVar 0)) aNil)))
theorem nd_Board_names : (["self"] : List Str).Nodup := by decide +kernel
theorem sc_Board_names : FnScope (["self"] : List Str) (["self"] : List Str) (defScope s_Board_names) := ⟨rfl, rfl, rfl, nd_Board_names, rfl, by decide +kernel, by decide +kernel⟩
theorem d_Board_names (T : Tx K mg ca) (l : List Addr) {f : Addr} {cdv : Value} {A : Around} {outer : List Env} {s : Shared} {H : Hp} {W : XK} (hr : Room 0 (A.deeper (envOfC "Board.names" (defScope s_Board_names) s.heap.objs.size f cdv))) (hu65 : (A.deeper (envOfC "Board.names" (defScope s_Board_names) s.heap.objs.size f cdv)).units + 65 < cLine) (hu64 : (A.deeper (envOfC "Board.names" (defScope s_Board_names) s.heap.objs.size f cdv)).units + 64 < cLine) (nd : (["self"] : List Str).Nodup) :
    PSs (cxOf (L2.CX P w) P w K mg base (["self"] : List Str) "Board.names" (defScope s_Board_names) f cdv A outer s H W) (defBody s_Board_names) (tS ⟨K, ca, fnX, xn, l⟩ W b_Board_names) :=
  (s_one (s_ret (x_orA (x_blty (c_list rfl) T.n_list (by decide +kernel) (a_cons (x_fld 1 T.cl_1 T.na_1__fields (x_var (i := 0))) a_nil)) (x_blty (c_listD rfl) T.n_list (by decide +kernel) (a_cons (x_fld 1 T.cl_1 T.na_1__fields (x_var (i := 0))) a_nil)))))
def F_Board_names : List T → Sto → Z T := defF fnX 1 1 b_Board_names
theorem ok_Board_names (T : Tx K mg ca) : PropP P w K mg base ca fnX xn 1 "names" 1 F_Board_names :=
  propP_of (k := 0) (N := (["self"] : List Str)) T.p_Board_names sc_Board_names rfl (by decide) (fun _ _ _ _ _ _ us hl => match us, hl with | [_], _ => rfl) fun f l cdv A outer s H W hr => by
    have hu65 := hu_of hr
    have hu64 := Nat.lt_of_succ_lt hu65
    have nd := nd_Board_names
    exact d_Board_names T l hr hu65 hu64 nd

abbrev s_Board___getitem__ : Stmt := inClass (top 16) 4
def b_Board___getitem__ : Fs := (sSeq (sIf (bOr (bNot (bOf (v1 (hIsi .str []) (vVar 1)))) (bOf (v2 (hIn false) (vVar 1) (v1 (hFld fnX 1 "_fields") (vVar 0))))) sBad sNext) (sRet (v2 hIx (v1 (hFld fnX 1 "_fields") (vVar 0)) (vVar 1))))
theorem nd_Board___getitem__ : (["self", "at"] : List Str).Nodup := by decide +kernel
theorem sc_Board___getitem__ : FnScope (["self", "at"] : List Str) (["self", "at"] : List Str) (defScope s_Board___getitem__) := ⟨rfl, rfl, rfl, nd_Board___getitem__, rfl, by decide +kernel, by decide +kernel⟩
theorem d_Board___getitem__ (T : Tx K mg ca) (l : List Addr) {f : Addr} {cdv : Value} {A : Around} {outer : List Env} {s : Shared} {H : Hp} {W : XK} (hr : Room 0 (A.deeper (envOfC "Board.__getitem__" (defScope s_Board___getitem__) s.heap.objs.size f cdv))) (hu65 : (A.deeper (envOfC "Board.__getitem__" (defScope s_Board___getitem__) s.heap.objs.size f cdv)).units + 65 < cLine) (hu64 : (A.deeper (envOfC "Board.__getitem__" (defScope s_Board___getitem__) s.heap.objs.size f cdv)).units + 64 < cLine) (nd : (["self", "at"] : List Str).Nodup) :
    PSs (cxOf (L2.CX P w) P w K mg base (["self", "at"] : List Str) "Board.__getitem__" (defScope s_Board___getitem__) f cdv A outer s H W) (defBody s_Board___getitem__) (tS ⟨K, ca, fnX, xn, l⟩ W b_Board___getitem__) :=
  (s_cons (s_if (L2.PW.pt (w_or (b_not (b_val (x_isi .str [] rfl (fun c h => nomatch h) T.n_isinstance T.n_str (by decide +kernel) (x_var (i := 1))))) (w_1 (b_cmp (o_notin rfl hu65) (x_var (i := 1)) (x_fld 1 T.cl_1 T.na_1__fields (x_var (i := 0))))))) (s_one s_never) s_nil) (s_one (s_ret (x_sub rfl hu65 (x_fld 1 T.cl_1 T.na_1__fields (x_var (i := 0))) (x_var (i := 1))))))
def F_Board___getitem__ : List T → Sto → Z T := defF fnX 2 2 b_Board___getitem__
theorem ok_Board___getitem__ (T : Tx K mg ca) : OwnP P w K mg base ca fnX xn 1 "__getitem__" 1 2 F_Board___getitem__ :=
  ownP_of (k := 0) (N := (["self", "at"] : List Str)) T.m_Board___getitem__ sc_Board___getitem__ rfl (by decide) (fun _ _ _ _ _ _ us hl => match us, hl with | [_, _], _ => rfl) fun f l cdv A outer s H W hr => by
    have hu65 := hu_of hr
    have hu64 := Nat.lt_of_succ_lt hu65
    have nd := nd_Board___getitem__
    exact d_Board___getitem__ T l hr hu65 hu64 nd

abbrev s_steps_from : Stmt := top 24
def q_steps_from_1 : Fx := (vLc [4] (iSeq (v1 (hProp fnX 1 F_Board_names) (vVar 0))) (gN 4) (bAnd (bOf (v2 (hInO fnX 0 (fun b => b) F_Field___contains__) (vVar 4) (vVar 3))) (bOf (v2 (hIn false) (vA hTup (aCons (vVar 1) (aCons (vVar 4) aNil))) (vVar 2)))) (vVar 4))
def b_steps_from : Fs := (sSeq (sAsg (v2 (hOwn2 fnX 1 F_Board___getitem__) (vVar 0) (vVar 1)) (gN 3)) (sRet q_steps_from_1))
theorem nd_steps_from : (["board", "name", "forbidden", "field", "target"] : List Str).Nodup := by decide +kernel
theorem sc_steps_from : FnScope (["board", "name", "forbidden", "field", "target"] : List Str) (["board", "name", "forbidden"] : List Str) (defScope s_steps_from) := ⟨rfl, rfl, rfl, nd_steps_from, rfl, by decide +kernel, by decide +kernel⟩
theorem d_steps_from (T : Tx K mg ca) (l : List Addr) {f : Addr} {cdv : Value} {A : Around} {outer : List Env} {s : Shared} {H : Hp} {W : XK} (hr : Room 2 (A.deeper (envOfC "steps_from" (defScope s_steps_from) s.heap.objs.size f cdv))) (hu65 : (A.deeper (envOfC "steps_from" (defScope s_steps_from) s.heap.objs.size f cdv)).units + 65 < cLine) (hu64 : (A.deeper (envOfC "steps_from" (defScope s_steps_from) s.heap.objs.size f cdv)).units + 64 < cLine) (nd : (["board", "name", "forbidden", "field", "target"] : List Str).Nodup) :
    PSs (cxOf (L2.CX P w) P w K mg base (["board", "name", "forbidden", "field", "target"] : List Str) "steps_from" (defScope s_steps_from) f cdv A outer s H W) (defBody s_steps_from) (tS ⟨K, ca, fnX, xn, l⟩ W b_steps_from) :=
  (s_cons (s_set (i := 3) nd (x_subO ((ok_Board___getitem__ T).at rfl) (hr.mono (by decide)) (passX (takes_of rfl rfl rfl rfl)) (x_var (i := 0)) (x_var (i := 1)))) (s_one (s_ret (x_lc (own := [("target", 4)]) rfl nd (i_list rfl (x_propC (ok_Board_names T) rfl T.cl_1 hr (by decide) (x_var (i := 0)))) (blkOk_by (N := ["board", "name", "forbidden", "field", "target"]) (sc := defScope s_steps_from) (by decide +kernel)) (fun l s H C cl fp => (g_name (i := 4) nd)) (fun l s H C cl fp => (q_one (L2.PW.pt (w_and (b_cmp (o_inO ((ok_Field___contains__ T).at rfl) (hr.mono (by decide)) pass0) (x_var (i := 4)) (x_var (i := 3))) (w_1 (b_cmp (o_notin rfl hu65) (x_tup (a_cons (x_var (i := 1)) (a_cons (x_var (i := 4)) a_nil))) (x_var (i := 2)))))))) (fun l s H C cl fp => (x_var (i := 4)))))))
def F_steps_from : List T → Sto → Z T := defF fnX 3 5 b_steps_from
theorem ok_steps_from (T : Tx K mg ca) : Cal P w K mg base ca fnX xn "steps_from" 3 3 F_steps_from :=
  cal_of (k := 2) (N := (["board", "name", "forbidden", "field", "target"] : List Str)) T.d_steps_from sc_steps_from rfl (by decide) (fun _ _ _ _ _ _ us hl => match us, hl with | [_, _, _], _ => rfl) fun f l cdv A outer s H W hr => by
    have hu65 := hu_of hr
    have hu64 := Nat.lt_of_succ_lt hu65
    have nd := nd_steps_from
    exact d_steps_from T l hr hu65 hu64 nd

abbrev s_Field_goal : Stmt := inClass (top 15) 3
def b_Field_goal : Fs := (sRet (v1 (hFld fnX 0 "_goal") (vVar 0)))
theorem nd_Field_goal : (["self"] : List Str).Nodup := by decide +kernel
theorem sc_Field_goal : FnScope (["self"] : List Str) (["self"] : List Str) (defScope s_Field_goal) := ⟨rfl, rfl, rfl, nd_Field_goal, rfl, by decide +kernel, by decide +kernel⟩
theorem d_Field_goal (T : Tx K mg ca) (l : List Addr) {f : Addr} {cdv : Value} {A : Around} {outer : List Env} {s : Shared} {H : Hp} {W : XK} (hr : Room 0 (A.deeper (envOfC "Field.goal" (defScope s_Field_goal) s.heap.objs.size f cdv))) (hu65 : (A.deeper (envOfC "Field.goal" (defScope s_Field_goal) s.heap.objs.size f cdv)).units + 65 < cLine) (hu64 : (A.deeper (envOfC "Field.goal" (defScope s_Field_goal) s.heap.objs.size f cdv)).units + 64 < cLine) (nd : (["self"] : List Str).Nodup) :
    PSs (cxOf (L2.CX P w) P w K mg base (["self"] : List Str) "Field.goal" (defScope s_Field_goal) f cdv A outer s H W) (defBody s_Field_goal) (tS ⟨K, ca, fnX, xn, l⟩ W b_Field_goal) :=
  (s_one (s_ret (x_fld 0 T.cl_0 T.na_0__goal (x_var (i := 0)))))
def F_Field_goal : List T → Sto → Z T := defF fnX 1 1 b_Field_goal
theorem ok_Field_goal (T : Tx K mg ca) : PropP P w K mg base ca fnX xn 0 "goal" 1 F_Field_goal :=
  propP_of (k := 0) (N := (["self"] : List Str)) T.p_Field_goal sc_Field_goal rfl (by decide) (fun _ _ _ _ _ _ us hl => match us, hl with | [_], _ => rfl) fun f l cdv A outer s H W hr => by
    have hu65 := hu_of hr
    have hu64 := Nat.lt_of_succ_lt hu65
    have nd := nd_Field_goal
    exact d_Field_goal T l hr hu65 hu64 nd

abbrev s_Field_owner : Stmt := inClass (top 15) 1
def b_Field_owner : Fs := (sRet (v1 (hFld fnX 0 "_owner") (vVar 0)))
theorem nd_Field_owner : (["self"] : List Str).Nodup := by decide +kernel
theorem sc_Field_owner : FnScope (["self"] : List Str) (["self"] : List Str) (defScope s_Field_owner) := ⟨rfl, rfl, rfl, nd_Field_owner, rfl, by decide +kernel, by decide +kernel⟩
theorem d_Field_owner (T : Tx K mg ca) (l : List Addr) {f : Addr} {cdv : Value} {A : Around} {outer : List Env} {s : Shared} {H : Hp} {W : XK} (hr : Room 0 (A.deeper (envOfC "Field.owner" (defScope s_Field_owner) s.heap.objs.size f cdv))) (hu65 : (A.deeper (envOfC "Field.owner" (defScope s_Field_owner) s.heap.objs.size f cdv)).units + 65 < cLine) (hu64 : (A.deeper (envOfC "Field.owner" (defScope s_Field_owner) s.heap.objs.size f cdv)).units + 64 < cLine) (nd : (["self"] : List Str).Nodup) :
    PSs (cxOf (L2.CX P w) P w K mg base (["self"] : List Str) "Field.owner" (defScope s_Field_owner) f cdv A outer s H W) (defBody s_Field_owner) (tS ⟨K, ca, fnX, xn, l⟩ W b_Field_owner) :=
  (s_one (s_ret (x_fld 0 T.cl_0 T.na_0__owner (x_var (i := 0)))))
def F_Field_owner : List T → Sto → Z T := defF fnX 1 1 b_Field_owner
theorem ok_Field_owner (T : Tx K mg ca) : PropP P w K mg base ca fnX xn 0 "owner" 1 F_Field_owner :=
  propP_of (k := 0) (N := (["self"] : List Str)) T.p_Field_owner sc_Field_owner rfl (by decide) (fun _ _ _ _ _ _ us hl => match us, hl with | [_], _ => rfl) fun f l cdv A outer s H W hr => by
    have hu65 := hu_of hr
    have hu64 := Nat.lt_of_succ_lt hu65
    have nd := nd_Field_owner
    exact d_Field_owner T l hr hu65 hu64 nd

abbrev s_is_forced : Stmt := top 33
def b_is_forced : Fs := (sSeq (sIf (bOf (v1 (hProp fnX 0 F_Field_goal) (vVar 0))) (sRet (vC (.bl true))) sNext) (sSeq (sIf (bOf (v2 (hEqF true) (v1 (hProp fnX 0 F_Field_owner) (vVar 0)) (vC (.int 1)))) (sRet (vA (hAll fun bs => bs.any id) (aCons (vVar 1) aNil))) sNext) (sRet (vA (hAll fun bs => bs.all id) (aCons (vVar 1) aNil)))))
theorem nd_is_forced : (["field", "leads_on"] : List Str).Nodup := by decide +kernel
theorem sc_is_forced : FnScope (["field", "leads_on"] : List Str) (["field", "leads_on"] : List Str) (defScope s_is_forced) := ⟨rfl, rfl, rfl, nd_is_forced, rfl, by decide +kernel, by decide +kernel⟩
theorem d_is_forced (T : Tx K mg ca) (l : List Addr) {f : Addr} {cdv : Value} {A : Around} {outer : List Env} {s : Shared} {H : Hp} {W : XK} (hr : Room 2 (A.deeper (envOfC "is_forced" (defScope s_is_forced) s.heap.objs.size f cdv))) (hu65 : (A.deeper (envOfC "is_forced" (defScope s_is_forced) s.heap.objs.size f cdv)).units + 65 < cLine) (hu64 : (A.deeper (envOfC "is_forced" (defScope s_is_forced) s.heap.objs.size f cdv)).units + 64 < cLine) (nd : (["field", "leads_on"] : List Str).Nodup) :
    PSs (cxOf (L2.CX P w) P w K mg base (["field", "leads_on"] : List Str) "is_forced" (defScope s_is_forced) f cdv A outer s H W) (defBody s_is_forced) (tS ⟨K, ca, fnX, xn, l⟩ W b_is_forced) :=
  (s_cons (s_if (b_val (x_propC (ok_Field_goal T) rfl T.cl_0 hr (by decide) (x_var (i := 0)))) (s_one (s_ret x_bl)) s_nil) (s_cons (s_if (b_cmp (o_eqF rfl hu64) (x_propC (ok_Field_owner T) rfl T.cl_0 hr (by decide) (x_var (i := 0))) x_int) (s_one (s_ret (x_blt (c_any rfl rfl) T.n_any (by decide +kernel) (a_cons (x_var (i := 1)) a_nil)))) s_nil) (s_one (s_ret (x_blt (c_all rfl rfl) T.n_all (by decide +kernel) (a_cons (x_var (i := 1)) a_nil))))))
def F_is_forced : List T → Sto → Z T := defF fnX 2 2 b_is_forced
theorem ok_is_forced (T : Tx K mg ca) : Cal P w K mg base ca fnX xn "is_forced" 3 2 F_is_forced :=
  cal_of (k := 2) (N := (["field", "leads_on"] : List Str)) T.d_is_forced sc_is_forced rfl (by decide) (fun _ _ _ _ _ _ us hl => match us, hl with | [_, _], _ => rfl) fun f l cdv A outer s H W hr => by
    have hu65 := hu_of hr
    have hu64 := Nat.lt_of_succ_lt hu65
    have nd := nd_is_forced
    exact d_is_forced T l hr hu65 hu64 nd

abbrev s_is_won_by : Stmt := top 32
def q_is_won_by_1 : Fx := (vLc [3] (iSeq (vVar 1)) (gN 3) bYes (v2 (hIn true) (vVar 3) (vVar 2)))
def b_is_won_by : Fs := (sRet (vA F_is_forced (aCons (vVar 0) (aCons q_is_won_by_1 aNil))))
theorem nd_is_won_by : (["field", "steps", "found", "target"] : List Str).Nodup := by decide +kernel
theorem sc_is_won_by : FnScope (["field", "steps", "found", "target"] : List Str) (["field", "steps", "found"] : List Str) (defScope s_is_won_by) := ⟨rfl, rfl, rfl, nd_is_won_by, rfl, by decide +kernel, by decide +kernel⟩
theorem d_is_won_by (T : Tx K mg ca) (l : List Addr) {f : Addr} {cdv : Value} {A : Around} {outer : List Env} {s : Shared} {H : Hp} {W : XK} (hr : Room 3 (A.deeper (envOfC "is_won_by" (defScope s_is_won_by) s.heap.objs.size f cdv))) (hu65 : (A.deeper (envOfC "is_won_by" (defScope s_is_won_by) s.heap.objs.size f cdv)).units + 65 < cLine) (hu64 : (A.deeper (envOfC "is_won_by" (defScope s_is_won_by) s.heap.objs.size f cdv)).units + 64 < cLine) (nd : (["field", "steps", "found", "target"] : List Str).Nodup) :
    PSs (cxOf (L2.CX P w) P w K mg base (["field", "steps", "found", "target"] : List Str) "is_won_by" (defScope s_is_won_by) f cdv A outer s H W) (defBody s_is_won_by) (tS ⟨K, ca, fnX, xn, l⟩ W b_is_won_by) :=
  (s_one (s_ret (x_callC (ok_is_forced T) rfl hr (by decide) (passX (takes_of rfl rfl rfl rfl)) (a_cons (x_var (i := 0)) (a_cons (x_lc (own := [("target", 3)]) rfl nd (i_list rfl (x_var (i := 1))) (blkOk_by (N := ["field", "steps", "found", "target"]) (sc := defScope s_is_won_by) (by decide +kernel)) (fun l s H C cl fp => (g_name (i := 3) nd)) (fun l s H C cl fp => q_nil) (fun l s H C cl fp => (x_cmp (o_in rfl hu65) (x_var (i := 3)) (x_var (i := 2))))) a_nil)))))
def F_is_won_by : List T → Sto → Z T := defF fnX 3 4 b_is_won_by
theorem ok_is_won_by (T : Tx K mg ca) : Cal P w K mg base ca fnX xn "is_won_by" 4 3 F_is_won_by :=
  cal_of (k := 3) (N := (["field", "steps", "found", "target"] : List Str)) T.d_is_won_by sc_is_won_by rfl (by decide) (fun _ _ _ _ _ _ us hl => match us, hl with | [_, _, _], _ => rfl) fun f l cdv A outer s H W hr => by
    have hu65 := hu_of hr
    have hu64 := Nat.lt_of_succ_lt hu65
    have nd := nd_is_won_by
    exact d_is_won_by T l hr hu65 hu64 nd

abbrev s_distances : Stmt := top 31
def q_distances_1 : Fx := (vDc [6] (iSeq (v1 (hProp fnX 1 F_Board_names) (vVar 0))) (gN 6) bYes (vVar 6) (vA F_steps_from (aCons (vVar 0) (aCons (vVar 6) (aCons (vVar 1) aNil)))))
def q_distances_2 : Fx := (vLcD [6] (pVar 2) (gN 6) (bAnd (bOf (v2 (hIn false) (vVar 6) (vVar 3))) (bOf (vA F_is_won_by (aCons (v2 (hOwn2 fnX 1 F_Board___getitem__) (vVar 0) (vVar 6)) (aCons (v2 hIx (vVar 2) (vVar 6)) (aCons (vVar 3) aNil)))))) (vVar 6))
def b_distances_3 : Fs := (sPut (vVar 3) (vVar 6) (vVar 4))
def b_distances_4 : Fs := (sSeq (sAsg q_distances_2 (gN 5)) (sFor (iSeq (vVar 5)) (gN 6) b_distances_3))
def q_distances_5 : Fx := (vDcD [6] (pVar 2) (gN 6) bYes (vVar 6) (vGet1 (vVar 3) (vVar 6)))
def b_distances : Fs := (sSeq (sExpr (vA F_check_board (aCons (vVar 0) aNil))) (sSeq (sExpr (vA F_check_set (aCons (vVar 0) (aCons (vVar 1) aNil)))) (sSeq (sAsg q_distances_1 (gN 2)) (sSeq (sAsg vNewKc (gN 3)) (sSeq (sFor (iRange1 (aCons (vA hLen (aCons (vVar 2) aNil)) aNil)) (gN 4) b_distances_4) (sRet q_distances_5))))))
theorem nd_distances : (["board", "forbidden", "steps", "found", "distance", "won", "name"] : List Str).Nodup := by decide +kernel
theorem sc_distances : FnScope (["board", "forbidden", "steps", "found", "distance", "won", "name"] : List Str) (["board", "forbidden"] : List Str) (defScope s_distances) := ⟨rfl, rfl, rfl, nd_distances, rfl, by decide +kernel, by decide +kernel⟩
theorem d_distances (T : Tx K mg ca) (l : List Addr) {f : Addr} {cdv : Value} {A : Around} {outer : List Env} {s : Shared} {H : Hp} {W : XK} (hr : Room 4 (A.deeper (envOfC "distances" (defScope s_distances) s.heap.objs.size f cdv))) (hu65 : (A.deeper (envOfC "distances" (defScope s_distances) s.heap.objs.size f cdv)).units + 65 < cLine) (hu64 : (A.deeper (envOfC "distances" (defScope s_distances) s.heap.objs.size f cdv)).units + 64 < cLine) (nd : (["board", "forbidden", "steps", "found", "distance", "won", "name"] : List Str).Nodup) :
    PSs (cxOf (L2.CX P w) P w K mg base (["board", "forbidden", "steps", "found", "distance", "won", "name"] : List Str) "distances" (defScope s_distances) f cdv A outer s H W) (defBody s_distances) (tS ⟨K, ca, fnX, xn, l⟩ W b_distances) :=
  (s_cons (s_expr (x_callC (ok_check_board T) rfl hr (by decide) (passX (takes_of rfl rfl rfl rfl)) (a_cons (x_var (i := 0)) a_nil))) (s_cons (s_expr (x_callC (ok_check_set T) rfl hr (by decide) (passX (takes_of rfl rfl rfl rfl)) (a_cons (x_var (i := 0)) (a_cons (x_var (i := 1)) a_nil)))) (s_cons (s_set (i := 2) nd (x_dc (own := [("name", 6)]) rfl nd (i_list rfl (x_propC (ok_Board_names T) rfl T.cl_1 hr (by decide) (x_var (i := 0)))) (blkOk_by (N := ["board", "forbidden", "steps", "found", "distance", "won", "name"]) (sc := defScope s_distances) (by decide +kernel)) (fun l s H C cl fp => (g_name (i := 6) nd)) (fun l s H C cl fp => q_nil) (fun l s H C cl fp => (x_var (i := 6))) (fun l s H C cl fp => (x_callC (ok_steps_from T) rfl hr (by decide) pass0 (a_cons (x_var (i := 0)) (a_cons (x_var (i := 6)) (a_cons (x_var (i := 1)) a_nil))))))) (s_cons (s_set (i := 3) nd x_newKc) (s_cons (s_for (passes_of rfl) rfl (i_range1 T.n_range (a_cons (x_blt (c_len rfl) T.n_len (by decide +kernel) (a_cons (x_var (i := 2)) a_nil)) a_nil)) (g_name (i := 4) nd) (s_cons (s_setLcD (own := [("name", 6)]) (i := 5) rfl nd rfl rfl rfl (pe_var (i := 2) rfl (by first | exact Or.inl rfl | exact Or.inr (Or.inl rfl) | exact Or.inr (Or.inr rfl)) (by decide) (by decide)) p_var (blkOk_by (N := ["board", "forbidden", "steps", "found", "distance", "won", "name"]) (sc := defScope s_distances) (by decide +kernel)) (fun l s H C cl fp => (g_name (i := 6) nd)) (fun l s H C cl fp => (q_one (L2.PW.pt (w_and (b_cmp (o_notin rfl hu65) (x_var (i := 6)) (x_var (i := 3))) (w_1 (b_val (x_callC (ok_is_won_by T) rfl hr (by decide) pass0 (a_cons (x_subO ((ok_Board___getitem__ T).at rfl) (hr.mono (by decide)) pass0 (x_var (i := 0)) (x_var (i := 6))) (a_cons (x_sub rfl hu65 (x_var (i := 2)) (x_var (i := 6))) (a_cons (x_var (i := 3)) a_nil)))))))))) (fun l s H C cl fp => (x_var (i := 6)))) (s_one (s_for (passes_of rfl) rfl (i_list rfl (x_var (i := 5))) (g_name (i := 6) nd) (s_one (s_put hu65 (x_var (i := 4)) (x_var (i := 3)) (x_var (i := 6)))))))) (s_one (s_ret (x_dcD (own := [("name", 6)]) rfl nd (pe_var (i := 2) rfl (by first | exact Or.inl rfl | exact Or.inr (Or.inl rfl) | exact Or.inr (Or.inr rfl)) (by decide) (by decide)) p_var (blkOk_by (N := ["board", "forbidden", "steps", "found", "distance", "won", "name"]) (sc := defScope s_distances) (by decide +kernel)) (fun l s H C cl fp => (g_name (i := 6) nd)) (fun l s H C cl fp => q_nil) (fun l s H C cl fp => (x_var (i := 6))) (fun l s H C cl fp => (x_get1 hu65 (x_var (i := 3)) (x_var (i := 6))))))))))))
def F_distances : List T → Sto → Z T := defF fnX 2 7 b_distances
theorem ok_distances (T : Tx K mg ca) : Cal P w K mg base ca fnX xn "distances" 5 2 F_distances :=
  cal_of (k := 4) (N := (["board", "forbidden", "steps", "found", "distance", "won", "name"] : List Str)) T.d_distances sc_distances rfl (by decide) (fun _ _ _ _ _ _ us hl => match us, hl with | [_, _], _ => rfl) fun f l cdv A outer s H W hr => by
    have hu65 := hu_of hr
    have hu64 := Nat.lt_of_succ_lt hu65
    have nd := nd_distances
    exact d_distances T l hr hu65 hu64 nd

abbrev s_Board_start : Stmt := inClass (top 16) 2
def b_Board_start : Fs := (sRet (v1 (hFld fnX 1 "_start") (vVar 0)))
theorem nd_Board_start : (["self"] : List Str).Nodup := by decide +kernel
theorem sc_Board_start : FnScope (["self"] : List Str) (["self"] : List Str) (defScope s_Board_start) := ⟨rfl, rfl, rfl, nd_Board_start, rfl, by decide +kernel, by decide +kernel⟩
theorem d_Board_start (T : Tx K mg ca) (l : List Addr) {f : Addr} {cdv : Value} {A : Around} {outer : List Env} {s : Shared} {H : Hp} {W : XK} (hr : Room 0 (A.deeper (envOfC "Board.start" (defScope s_Board_start) s.heap.objs.size f cdv))) (hu65 : (A.deeper (envOfC "Board.start" (defScope s_Board_start) s.heap.objs.size f cdv)).units + 65 < cLine) (hu64 : (A.deeper (envOfC "Board.start" (defScope s_Board_start) s.heap.objs.size f cdv)).units + 64 < cLine) (nd : (["self"] : List Str).Nodup) :
    PSs (cxOf (L2.CX P w) P w K mg base (["self"] : List Str) "Board.start" (defScope s_Board_start) f cdv A outer s H W) (defBody s_Board_start) (tS ⟨K, ca, fnX, xn, l⟩ W b_Board_start) :=
  (s_one (s_ret (x_fld 1 T.cl_1 T.na_1__start (x_var (i := 0)))))
def F_Board_start : List T → Sto → Z T := defF fnX 1 1 b_Board_start
theorem ok_Board_start (T : Tx K mg ca) : PropP P w K mg base ca fnX xn 1 "start" 1 F_Board_start :=
  propP_of (k := 0) (N := (["self"] : List Str)) T.p_Board_start sc_Board_start rfl (by decide) (fun _ _ _ _ _ _ us hl => match us, hl with | [_], _ => rfl) fun f l cdv A outer s H W hr => by
    have hu65 := hu_of hr
    have hu64 := Nat.lt_of_succ_lt hu65
    have nd := nd_Board_start
    exact d_Board_start T l hr hu65 hu64 nd

abbrev s_is_winning : Stmt := top 34
def b_is_winning : Fs := (sSeq (sAsg (vA F_distances (aCons (vVar 0) (aCons (vVar 1) aNil))) (gN 2)) (sRet (v2 (hIs false) (v2 hIx (vVar 2) (v1 (hProp fnX 1 F_Board_start) (vVar 0))) (vC .non))))
theorem nd_is_winning : (["board", "forbidden", "found"] : List Str).Nodup := by decide +kernel
theorem sc_is_winning : FnScope (["board", "forbidden", "found"] : List Str) (["board", "forbidden"] : List Str) (defScope s_is_winning) := ⟨rfl, rfl, rfl, nd_is_winning, rfl, by decide +kernel, by decide +kernel⟩
theorem d_is_winning (T : Tx K mg ca) (l : List Addr) {f : Addr} {cdv : Value} {A : Around} {outer : List Env} {s : Shared} {H : Hp} {W : XK} (hr : Room 5 (A.deeper (envOfC "is_winning" (defScope s_is_winning) s.heap.objs.size f cdv))) (hu65 : (A.deeper (envOfC "is_winning" (defScope s_is_winning) s.heap.objs.size f cdv)).units + 65 < cLine) (hu64 : (A.deeper (envOfC "is_winning" (defScope s_is_winning) s.heap.objs.size f cdv)).units + 64 < cLine) (nd : (["board", "forbidden", "found"] : List Str).Nodup) :
    PSs (cxOf (L2.CX P w) P w K mg base (["board", "forbidden", "found"] : List Str) "is_winning" (defScope s_is_winning) f cdv A outer s H W) (defBody s_is_winning) (tS ⟨K, ca, fnX, xn, l⟩ W b_is_winning) :=
  (s_cons (s_set (i := 2) nd (x_callC (ok_distances T) rfl hr (by decide) (passX (takes_of rfl rfl rfl rfl)) (a_cons (x_var (i := 0)) (a_cons (x_var (i := 1)) a_nil)))) (s_one (s_ret (x_cmp (o_isnot) (x_sub rfl hu65 (x_var (i := 2)) (x_propC (ok_Board_start T) rfl T.cl_1 hr (by decide) (x_var (i := 0)))) x_non))))
def F_is_winning : List T → Sto → Z T := defF fnX 2 3 b_is_winning
theorem ok_is_winning (T : Tx K mg ca) : Cal P w K mg base ca fnX xn "is_winning" 6 2 F_is_winning :=
  cal_of (k := 5) (N := (["board", "forbidden", "found"] : List Str)) T.d_is_winning sc_is_winning rfl (by decide) (fun _ _ _ _ _ _ us hl => match us, hl with | [_, _], _ => rfl) fun f l cdv A outer s H W hr => by
    have hu65 := hu_of hr
    have hu64 := Nat.lt_of_succ_lt hu65
    have nd := nd_is_winning
    exact d_is_winning T l hr hu65 hu64 nd

abbrev s__law_game_right : Stmt := top 48
def q__law_game_right_1 : Fx := (vLc [8] (iSeq (vVar 7)) (gN 8) (bAnd (bOf (v2 (hIs false) (v2 hIx (vVar 3) (vVar 8)) (vC .non))) (bOf (v2 hLt (v2 hIx (vVar 3) (vVar 8)) (v2 hIx (vVar 3) (vVar 4))))) (vVar 8))
def q__law_game_right_2 : Fx := (vLc [8] (iSeq (vVar 7)) (gN 8) bYes (vAnd (v2 (hIs false) (v2 hIx (vVar 3) (vVar 8)) (vC .non)) (v2 hLt (v2 hIx (vVar 3) (vVar 8)) (v2 hIx (vVar 3) (vVar 4)))))
def b__law_game_right_3 : Fs := (sSeq (sAsg (vA F__law_row (aCons (vVar 1) (aCons (vVar 4) aNil))) (gN 6)) (sSeq (sAsg (vA F__law_ways (aCons (vVar 1) (aCons (vVar 2) (aCons (vVar 4) aNil)))) (gN 7)) (sSeq (sIf (bOr (bOf (v2 hIx (vVar 6) (vC (.int 3)))) (bOf (v2 (hEqF true) (vVar 7) (vA hLst aNil)))) (sRet (vOr (v2 hIx (vVar 6) (vC (.int 3))) (v2 (hEqF true) (v2 hIx (vVar 6) (vC (.int 1))) (vC (.int 2))))) sNext) (sSeq (sIf (bOf (v2 (hEqF true) (v2 hIx (vVar 6) (vC (.int 1))) (vC (.int 1)))) (sAsg q__law_game_right_1 (gN 7)) sNext) (sSeq (sIf (bOr (bOf (v2 (hEqF true) (vVar 7) (vA hLst aNil))) (bNot (bOf (vA (hAll fun bs => bs.all id) (aCons q__law_game_right_2 aNil))))) (sRet (vC (.bl false))) sNext) (sAsg (v2 hIx (vVar 7) (vA F__law_take (aCons (vVar 0) (aCons (vA hLen (aCons (vVar 7) aNil)) aNil)))) (gN 4)))))))
def b__law_game_right : Fs := (sSeq (sAsg (v2 hIx (vVar 1) (vC (.int 1))) (gN 4)) (sSeq (sFor (iRange1 (aCons (v2 hIx (vVar 3) (v2 hIx (vVar 1) (vC (.int 1)))) aNil)) (gN 5) b__law_game_right_3) (sSeq (sAsg (vA F__law_row (aCons (vVar 1) (aCons (vVar 4) aNil))) (gN 6)) (sRet (vOr (v2 hIx (vVar 6) (vC (.int 3))) (vAnd (v2 (hEqF true) (v2 hIx (vVar 6) (vC (.int 1))) (vC (.int 2))) (v2 (hEqF true) (vA F__law_ways (aCons (vVar 1) (aCons (vVar 2) (aCons (vVar 4) aNil)))) (vA hLst aNil))))))))
theorem nd__law_game_right : (["_law_draws", "_law_plan", "_law_barred", "_law_far_here", "_law_name", "_law_turn", "_law_row_here", "_law_some", "_law_one"] : List Str).Nodup := by decide +kernel
theorem sc__law_game_right : FnScope (["_law_draws", "_law_plan", "_law_barred", "_law_far_here", "_law_name", "_law_turn", "_law_row_here", "_law_some", "_law_one"] : List Str) (["_law_draws", "_law_plan", "_law_barred", "_law_far_here"] : List Str) (defScope s__law_game_right) := ⟨rfl, rfl, rfl, nd__law_game_right, rfl, by decide +kernel, by decide +kernel⟩
theorem d__law_game_right (T : Tx K mg ca) (l : List Addr) {f : Addr} {cdv : Value} {A : Around} {outer : List Env} {s : Shared} {H : Hp} {W : XK} (hr : Room 2 (A.deeper (envOfC "_law_game_right" (defScope s__law_game_right) s.heap.objs.size f cdv))) (hu65 : (A.deeper (envOfC "_law_game_right" (defScope s__law_game_right) s.heap.objs.size f cdv)).units + 65 < cLine) (hu64 : (A.deeper (envOfC "_law_game_right" (defScope s__law_game_right) s.heap.objs.size f cdv)).units + 64 < cLine) (nd : (["_law_draws", "_law_plan", "_law_barred", "_law_far_here", "_law_name", "_law_turn", "_law_row_here", "_law_some", "_law_one"] : List Str).Nodup) :
    PSs (cxOf (L2.CX P w) P w K mg base (["_law_draws", "_law_plan", "_law_barred", "_law_far_here", "_law_name", "_law_turn", "_law_row_here", "_law_some", "_law_one"] : List Str) "_law_game_right" (defScope s__law_game_right) f cdv A outer s H W) (defBody s__law_game_right) (tS ⟨K, ca, fnX, xn, l⟩ W b__law_game_right) :=
  (s_cons (s_set (i := 4) nd (x_sub rfl hu65 (x_var (i := 1)) x_int)) (s_cons (s_for (passes_of rfl) rfl (i_range1 T.n_range (a_cons (x_sub rfl hu65 (x_var (i := 3)) (x_sub rfl hu65 (x_var (i := 1)) x_int)) a_nil)) (g_name (i := 5) nd) (s_cons (s_set (i := 6) nd (x_callC (ok__law_row T) rfl hr (by decide) (passX (takes_of rfl rfl rfl rfl)) (a_cons (x_var (i := 1)) (a_cons (x_var (i := 4)) a_nil)))) (s_cons (s_set (i := 7) nd (x_callC (ok__law_ways T) rfl hr (by decide) (passX (takes_of rfl rfl rfl rfl)) (a_cons (x_var (i := 1)) (a_cons (x_var (i := 2)) (a_cons (x_var (i := 4)) a_nil))))) (s_cons (s_if (L2.PW.pt (w_or (b_val (x_sub rfl hu65 (x_var (i := 6)) x_int)) (w_1 (b_cmp (o_eqF rfl hu64) (x_var (i := 7)) (x_lst a_nil))))) (s_one (s_ret (x_or (x_sub rfl hu65 (x_var (i := 6)) x_int) (x_one (x_cmp (o_eqF rfl hu64) (x_sub rfl hu65 (x_var (i := 6)) x_int) x_int))))) s_nil) (s_cons (s_if (b_cmp (o_eqF rfl hu64) (x_sub rfl hu65 (x_var (i := 6)) x_int) x_int) (s_one (s_setLc (own := [("_law_one", 8)]) (i := 7) rfl nd rfl rfl rfl (i_list rfl (x_var (i := 7))) (blkOk_by (N := ["_law_draws", "_law_plan", "_law_barred", "_law_far_here", "_law_name", "_law_turn", "_law_row_here", "_law_some", "_law_one"]) (sc := defScope s__law_game_right) (by decide +kernel)) (fun l s H C cl fp => (g_name (i := 8) nd)) (fun l s H C cl fp => (q_one (L2.PW.pt (w_and (b_cmp (o_isnot) (x_sub rfl hu65 (x_var (i := 3)) (x_var (i := 8))) x_non) (w_1 (b_cmp (o_lt) (x_sub rfl hu65 (x_var (i := 3)) (x_var (i := 8))) (x_sub rfl hu65 (x_var (i := 3)) (x_var (i := 4))))))))) (fun l s H C cl fp => (x_var (i := 8))))) s_nil) (s_cons (s_if (L2.PW.pt (w_or (b_cmp (o_eqF rfl hu64) (x_var (i := 7)) (x_lst a_nil)) (w_1 (b_not (b_val (x_blt (c_all rfl rfl) T.n_all (by decide +kernel) (a_cons (x_lc (own := [("_law_one", 8)]) rfl nd (i_list rfl (x_var (i := 7))) (blkOk_by (N := ["_law_draws", "_law_plan", "_law_barred", "_law_far_here", "_law_name", "_law_turn", "_law_row_here", "_law_some", "_law_one"]) (sc := defScope s__law_game_right) (by decide +kernel)) (fun l s H C cl fp => (g_name (i := 8) nd)) (fun l s H C cl fp => q_nil) (fun l s H C cl fp => (x_and (x_cmp (o_isnot) (x_sub rfl hu65 (x_var (i := 3)) (x_var (i := 8))) x_non) (x_one (x_cmp (o_lt) (x_sub rfl hu65 (x_var (i := 3)) (x_var (i := 8))) (x_sub rfl hu65 (x_var (i := 3)) (x_var (i := 4)))))))) a_nil))))))) (s_one (s_ret x_bl)) s_nil) (s_one (s_set (i := 4) nd (x_sub rfl hu65 (x_var (i := 7)) (x_callC (ok__law_take T) rfl hr (by decide) (passX (takes_of rfl rfl rfl rfl)) (a_cons (x_var (i := 0)) (a_cons (x_blt (c_len rfl) T.n_len (by decide +kernel) (a_cons (x_var (i := 7)) a_nil)) a_nil)))))))))))) (s_cons (s_set (i := 6) nd (x_callC (ok__law_row T) rfl hr (by decide) (passX (takes_of rfl rfl rfl rfl)) (a_cons (x_var (i := 1)) (a_cons (x_var (i := 4)) a_nil)))) (s_one (s_ret (x_or (x_sub rfl hu65 (x_var (i := 6)) x_int) (x_one (x_and (x_cmp (o_eqF rfl hu64) (x_sub rfl hu65 (x_var (i := 6)) x_int) x_int) (x_one (x_cmp (o_eqF rfl hu64) (x_callC (ok__law_ways T) rfl hr (by decide) (passX (takes_of rfl rfl rfl rfl)) (a_cons (x_var (i := 1)) (a_cons (x_var (i := 2)) (a_cons (x_var (i := 4)) a_nil)))) (x_lst a_nil)))))))))))
def F__law_game_right : List T → Sto → Z T := defF fnX 4 9 b__law_game_right
theorem ok__law_game_right (T : Tx K mg ca) : Cal P w K mg base ca fnX xn "_law_game_right" 3 4 F__law_game_right :=
  cal_of (k := 2) (N := (["_law_draws", "_law_plan", "_law_barred", "_law_far_here", "_law_name", "_law_turn", "_law_row_here", "_law_some", "_law_one"] : List Str)) T.d__law_game_right sc__law_game_right rfl (by decide) (fun _ _ _ _ _ _ us hl => match us, hl with | [_, _, _, _], _ => rfl) fun f l cdv A outer s H W hr => by
    have hu65 := hu_of hr
    have hu64 := Nat.lt_of_succ_lt hu65
    have nd := nd__law_game_right
    exact d__law_game_right T l hr hu65 hu64 nd

abbrev s_law : Stmt := top 49
def q_law_1 : Fx := (vLc [9] (iSeq (v2 hIx (vVar 3) (vC (.int 0)))) (gN 9) bYes (vA hTup (aCons (v2 hIx (vVar 9) (vC (.int 0))) (aCons (vGet1 (vVar 7) (v2 hIx (vVar 9) (vC (.int 0)))) aNil))))
def b_law_2 : Fs := (sSeq (sAsg (vIf (bOf (v2 hGt (vVar 5) (vC (.int 0)))) (vA F__law_set (aCons (vVar 1) (aCons (vVar 3) aNil))) (vA hTup aNil)) (gN 6)) (sSeq (sAsg (vA hTup (aCons (vA F__law_far (aCons (vVar 3) (aCons (vVar 6) aNil))) (aCons (vA F_distances (aCons (vVar 4) (aCons (vVar 6) aNil))) aNil))) (gT [(gN 7), (gN 8)])) (sSeq (sIf (bOr (bOf (v2 (hEqF false) (v1 hItems (vVar 8)) q_law_1)) (bOf (v2 (hEqF false) (vA F_is_winning (aCons (vVar 4) (aCons (vVar 6) aNil))) (v2 (hIn true) (v2 hIx (vVar 3) (vC (.int 1))) (vVar 7))))) (sRet (vC (.bl false))) sNext) (sIf (bAnd (bOf (v2 (hIs false) (v2 hIx (vVar 8) (v2 hIx (vVar 3) (vC (.int 1)))) (vC .non))) (bNot (bOf (vA F__law_game_right (aCons (vVar 1) (aCons (vVar 3) (aCons (vVar 6) (aCons (vVar 8) aNil)))))))) (sRet (vC (.bl false))) sNext))))
def b_law_3 : Fs := (sSeq (sAsg (vA F__law_drawn (aCons (vVar 1) (aCons (vC (.int 4)) aNil))) (gN 3)) (sSeq (sAsg (vA F__law_built (aCons (vVar 3) aNil)) (gN 4)) (sFor (iRange1 (aCons (vC (.int 3)) aNil)) (gN 5) b_law_2)))
def b_law : Fs := (sSeq (sAsg (vSlF (vVar 0) oNone (oSome (vC (.int 63)))) (gN 0)) (sSeq (sAsg (vA F__law_pool (aCons (vVar 0) (aCons (vA hTup (aCons (vC (.int 1000003)) (aCons (vC (.int 999983)) aNil))) aNil))) (gN 1)) (sSeq (sFor (iRange1 (aCons (vC (.int 4)) aNil)) (gN 2) b_law_3) (sRet (vC (.bl true))))))
theorem nd_law : (["_law_script", "_law_draws", "_law_turn", "_law_plan", "_law_built_here", "_law_more", "_law_barred", "_law_due", "_law_found", "_law_row_here"] : List Str).Nodup := by decide +kernel
theorem sc_law : FnScope (["_law_script", "_law_draws", "_law_turn", "_law_plan", "_law_built_here", "_law_more", "_law_barred", "_law_due", "_law_found", "_law_row_here"] : List Str) (["_law_script"] : List Str) (defScope s_law) := ⟨rfl, rfl, rfl, nd_law, rfl, by decide +kernel, by decide +kernel⟩
theorem d_law (T : Tx K mg ca) (l : List Addr) {f : Addr} {cdv : Value} {A : Around} {outer : List Env} {s : Shared} {H : Hp} {W : XK} (hr : Room 7 (A.deeper (envOfC "law" (defScope s_law) s.heap.objs.size f cdv))) (hu65 : (A.deeper (envOfC "law" (defScope s_law) s.heap.objs.size f cdv)).units + 65 < cLine) (hu64 : (A.deeper (envOfC "law" (defScope s_law) s.heap.objs.size f cdv)).units + 64 < cLine) (nd : (["_law_script", "_law_draws", "_law_turn", "_law_plan", "_law_built_here", "_law_more", "_law_barred", "_law_due", "_law_found", "_law_row_here"] : List Str).Nodup) :
    PSs (cxOf (L2.CX P w) P w K mg base (["_law_script", "_law_draws", "_law_turn", "_law_plan", "_law_built_here", "_law_more", "_law_barred", "_law_due", "_law_found", "_law_row_here"] : List Str) "law" (defScope s_law) f cdv A outer s H W) (defBody s_law) (tS ⟨K, ca, fnX, xn, l⟩ W b_law) :=
  (s_cons (s_set (i := 0) nd (x_sliceF rfl (x_var (i := 0)) o_none (o_some x_int))) (s_cons (s_set (i := 1) nd (x_callC (ok__law_pool T) rfl hr (by decide) (passX (takes_of rfl rfl rfl rfl)) (a_cons (x_var (i := 0)) (a_cons (x_tup (a_cons x_int (a_cons x_int a_nil))) a_nil)))) (s_cons (s_for (passes_of rfl) rfl (i_range1 T.n_range (a_cons x_int a_nil)) (g_name (i := 2) nd) (s_cons (s_set (i := 3) nd (x_callC (ok__law_drawn T) rfl hr (by decide) (passX (takes_of rfl rfl rfl rfl)) (a_cons (x_var (i := 1)) (a_cons x_int a_nil)))) (s_cons (s_set (i := 4) nd (x_callC (ok__law_built T) rfl hr (by decide) (passX (takes_of rfl rfl rfl rfl)) (a_cons (x_var (i := 3)) a_nil))) (s_one (s_for (passes_of rfl) rfl (i_range1 T.n_range (a_cons x_int a_nil)) (g_name (i := 5) nd) (s_cons (s_set (i := 6) nd (x_if (b_cmp (o_gt) (x_var (i := 5)) x_int) (x_callC (ok__law_set T) rfl hr (by decide) (passX (takes_of rfl rfl rfl rfl)) (a_cons (x_var (i := 1)) (a_cons (x_var (i := 3)) a_nil))) (x_tup a_nil))) (s_cons (s_asg (x_tup (a_cons (x_callC (ok__law_far T) rfl hr (by decide) (passX (takes_of rfl rfl rfl rfl)) (a_cons (x_var (i := 3)) (a_cons (x_var (i := 6)) a_nil))) (a_cons (x_callC (ok_distances T) rfl hr (by decide) (passX (takes_of rfl rfl rfl rfl)) (a_cons (x_var (i := 4)) (a_cons (x_var (i := 6)) a_nil))) a_nil))) (g_tup rfl rfl (gs_cons (g_name (i := 7) nd) (gs_cons (g_name (i := 8) nd) gs_nil)))) (s_cons (s_if (L2.PW.pt (w_or (b_cmp (o_neF rfl hu64) (x_items rfl (x_var (i := 8)) T.n_list) (x_lc (own := [("_law_row_here", 9)]) rfl nd (i_list rfl (x_sub rfl hu65 (x_var (i := 3)) x_int)) (blkOk_by (N := ["_law_script", "_law_draws", "_law_turn", "_law_plan", "_law_built_here", "_law_more", "_law_barred", "_law_due", "_law_found", "_law_row_here"]) (sc := defScope s_law) (by decide +kernel)) (fun l s H C cl fp => (g_name (i := 9) nd)) (fun l s H C cl fp => q_nil) (fun l s H C cl fp => (x_tup (a_cons (x_sub rfl hu65 (x_var (i := 9)) x_int) (a_cons (x_get1 hu65 (x_var (i := 7)) (x_sub rfl hu65 (x_var (i := 9)) x_int)) a_nil)))))) (w_1 (b_cmp (o_neF rfl hu64) (x_callC (ok_is_winning T) rfl hr (by decide) (passX (takes_of rfl rfl rfl rfl)) (a_cons (x_var (i := 4)) (a_cons (x_var (i := 6)) a_nil))) (x_cmp (o_in rfl hu65) (x_sub rfl hu65 (x_var (i := 3)) x_int) (x_var (i := 7))))))) (s_one (s_ret x_bl)) s_nil) (s_one (s_if (L2.PW.pt (w_and (b_cmp (o_isnot) (x_sub rfl hu65 (x_var (i := 8)) (x_sub rfl hu65 (x_var (i := 3)) x_int)) x_non) (w_1 (b_not (b_val (x_callC (ok__law_game_right T) rfl hr (by decide) (passX (takes_of rfl rfl rfl rfl)) (a_cons (x_var (i := 1)) (a_cons (x_var (i := 3)) (a_cons (x_var (i := 6)) (a_cons (x_var (i := 8)) a_nil)))))))))) (s_one (s_ret x_bl)) s_nil)))))))))) (s_one (s_ret x_bl)))))
def F_law : List T → Sto → Z T := defF fnX 1 10 b_law
theorem ok_law (T : Tx K mg ca) : Cal P w K mg base ca fnX xn "law" 8 1 F_law :=
  cal_of (k := 7) (N := (["_law_script", "_law_draws", "_law_turn", "_law_plan", "_law_built_here", "_law_more", "_law_barred", "_law_due", "_law_found", "_law_row_here"] : List Str)) T.d_law sc_law rfl (by decide) (fun _ _ _ _ _ _ us hl => match us, hl with | [_], _ => rfl) fun f l cdv A outer s H W hr => by
    have hu65 := hu_of hr
    have hu64 := Nat.lt_of_succ_lt hu65
    have nd := nd_law
    exact d_law T l hr hu65 hu64 nd
end
def caX (C0 C1 : Addr) : Nat → Addr := fun n => match n with | 0 => C0 | 1 => C1 | _ => 0
theorem tx_mk {K : PySem.W.Frag} {h : Heap} {mg : Str → Option Value} {C0 C1 : Addr} (X : K.In h) (G : h.Ns mainGlobals mg) {t_HIGHEST_COST : Tok} {t_LONGEST_NAME : Tok} {t_MOST_FIELDS : Tok} {t_MOST_PRICES : Tok} {f0 : Addr} {oc0 : Value} {od0 an0 : Option Addr} {sl0 : Array (Option Value)} {kV0 dc0 pm0 cd0 ct0 : Value} {f1 : Addr} {oc1 : Value} {od1 an1 : Option Addr} {sl1 : Array (Option Value)} {kV1 dc1 pm1 cd1 ct1 : Value} {f2 : Addr} {oc2 : Value} {od2 an2 : Option Addr} {sl2 : Array (Option Value)} {kV2 dc2 pm2 cd2 ct2 : Value} {f3 : Addr} {oc3 : Value} {od3 an3 : Option Addr} {sl3 : Array (Option Value)} {kV3 dc3 pm3 cd3 ct3 : Value} {f4 : Addr} {oc4 : Value} {od4 an4 : Option Addr} {sl4 : Array (Option Value)} {kV4 dc4 pm4 cd4 ct4 : Value} {f5 : Addr} {oc5 : Value} {od5 an5 : Option Addr} {sl5 : Array (Option Value)} {kV5 dc5 pm5 cd5 ct5 : Value} {f6 : Addr} {oc6 : Value} {od6 an6 : Option Addr} {sl6 : Array (Option Value)} {kV6 dc6 pm6 cd6 ct6 : Value} {f7 : Addr} {oc7 : Value} {od7 an7 : Option Addr} {sl7 : Array (Option Value)} {kV7 dc7 pm7 cd7 ct7 : Value} {f8 : Addr} {oc8 : Value} {od8 an8 : Option Addr} {sl8 : Array (Option Value)} {kV8 dc8 pm8 cd8 ct8 : Value} {f9 : Addr} {oc9 : Value} {od9 an9 : Option Addr} {sl9 : Array (Option Value)} {kV9 dc9 pm9 cd9 ct9 : Value} {f10 : Addr} {oc10 : Value} {od10 an10 : Option Addr} {sl10 : Array (Option Value)} {dc10 pm10 cd10 ct10 : Value} {d10 : Addr} {f11 : Addr} {oc11 : Value} {od11 an11 : Option Addr} {sl11 : Array (Option Value)} {kV11 dc11 pm11 cd11 ct11 : Value} {f12 : Addr} {oc12 : Value} {od12 an12 : Option Addr} {sl12 : Array (Option Value)} {kV12 dc12 pm12 cd12 ct12 : Value} {p12 : Addr} {r12 : List Value} {f13 : Addr} {oc13 : Value} {od13 an13 : Option Addr} {sl13 : Array (Option Value)} {kV13 dc13 pm13 cd13 ct13 : Value} {f14 : Addr} {oc14 : Value} {od14 an14 : Option Addr} {sl14 : Array (Option Value)} {kV14 dc14 pm14 cd14 ct14 : Value} {f15 : Addr} {oc15 : Value} {od15 an15 : Option Addr} {sl15 : Array (Option Value)} {kV15 dc15 pm15 cd15 ct15 : Value} {f16 : Addr} {oc16 : Value} {od16 an16 : Option Addr} {sl16 : Array (Option Value)} {kV16 dc16 pm16 cd16 ct16 : Value} {f17 : Addr} {oc17 : Value} {od17 an17 : Option Addr} {sl17 : Array (Option Value)} {kV17 dc17 pm17 cd17 ct17 : Value} {f18 : Addr} {oc18 : Value} {od18 an18 : Option Addr} {sl18 : Array (Option Value)} {kV18 dc18 pm18 cd18 ct18 : Value} {f19 : Addr} {oc19 : Value} {od19 an19 : Option Addr} {sl19 : Array (Option Value)} {kV19 dc19 pm19 cd19 ct19 : Value} {f20 : Addr} {oc20 : Value} {od20 an20 : Option Addr} {sl20 : Array (Option Value)} {kV20 dc20 pm20 cd20 ct20 : Value} {f21 : Addr} {oc21 : Value} {od21 an21 : Option Addr} {sl21 : Array (Option Value)} {kV21 dc21 pm21 cd21 ct21 : Value} {f22 : Addr} {oc22 : Value} {od22 an22 : Option Addr} {sl22 : Array (Option Value)} {kV22 dc22 pm22 cd22 ct22 : Value} {f23 : Addr} {oc23 : Value} {od23 an23 : Option Addr} {sl23 : Array (Option Value)} {kV23 dc23 pm23 cd23 ct23 : Value} {f24 : Addr} {oc24 : Value} {od24 an24 : Option Addr} {sl24 : Array (Option Value)} {kV24 dc24 pm24 cd24 ct24 : Value} {f25 : Addr} {oc25 : Value} {od25 an25 : Option Addr} {sl25 : Array (Option Value)} {kV25 dc25 pm25 cd25 ct25 : Value} {f26 : Addr} {oc26 : Value} {od26 an26 : Option Addr} {sl26 : Array (Option Value)} {kV26 dc26 pm26 cd26 ct26 : Value} {f27 : Addr} {oc27 : Value} {od27 an27 : Option Addr} {sl27 : Array (Option Value)} {kV27 dc27 pm27 cd27 ct27 : Value} {f28 : Addr} {oc28 : Value} {od28 an28 : Option Addr} {sl28 : Array (Option Value)} {kV28 dc28 pm28 cd28 ct28 : Value} {p28 : Addr} {r28 : List Value} {f29 : Addr} {oc29 : Value} {od29 an29 : Option Addr} {sl29 : Array (Option Value)} {kV29 dc29 pm29 cd29 ct29 : Value} {f30 : Addr} {oc30 : Value} {od30 an30 : Option Addr} {sl30 : Array (Option Value)} {kV30 dc30 pm30 cd30 ct30 : Value} {p30 : Addr} {r30 : List Value} {f31 : Addr} {oc31 : Value} {od31 an31 : Option Addr} {sl31 : Array (Option Value)} {kV31 dc31 pm31 cd31 ct31 : Value} {f32 : Addr} {oc32 : Value} {od32 an32 : Option Addr} {sl32 : Array (Option Value)} {kV32 dc32 pm32 cd32 ct32 : Value} {f33 : Addr} {oc33 : Value} {od33 an33 : Option Addr} {sl33 : Array (Option Value)} {kV33 dc33 pm33 cd33 ct33 : Value} {p33 : Addr} {r33 : List Value} {f34 : Addr} {oc34 : Value} {od34 an34 : Option Addr} {sl34 : Array (Option Value)} {kV34 dc34 pm34 cd34 ct34 : Value} {p34 : Addr} {r34 : List Value} {f35 : Addr} {oc35 : Value} {od35 an35 : Option Addr} {sl35 : Array (Option Value)} {kV35 dc35 pm35 cd35 ct35 : Value} {f36 : Addr} {oc36 : Value} {od36 an36 : Option Addr} {sl36 : Array (Option Value)} {kV36 dc36 pm36 cd36 ct36 : Value} {f37 : Addr} {oc37 : Value} {od37 an37 : Option Addr} {sl37 : Array (Option Value)} {kV37 dc37 pm37 cd37 ct37 : Value} {f38 : Addr} {oc38 : Value} {od38 an38 : Option Addr} {sl38 : Array (Option Value)} {kV38 dc38 pm38 cd38 ct38 : Value} {p38 : Addr} {r38 : List Value} {f39 : Addr} {oc39 : Value} {od39 an39 : Option Addr} {sl39 : Array (Option Value)} {kV39 dc39 pm39 cd39 ct39 : Value} {f40 : Addr} {oc40 : Value} {od40 an40 : Option Addr} {sl40 : Array (Option Value)} {kV40 dc40 pm40 cd40 ct40 : Value} {f41 : Addr} {oc41 : Value} {od41 an41 : Option Addr} {sl41 : Array (Option Value)} {kV41 dc41 pm41 cd41 ct41 : Value}
    (g_Field : PySem.W.nsIn K mainGlobals "Field" = some (some (.ref C0))) (g_Board : PySem.W.nsIn K mainGlobals "Board" = some (some (.ref C1))) (n_abs : PySem.W.nsIn K mainGlobals "abs" = some none) (n_all : PySem.W.nsIn K mainGlobals "all" = some none) (n_any : PySem.W.nsIn K mainGlobals "any" = some none) (n_bool : PySem.W.nsIn K mainGlobals "bool" = some none) (n_dict : PySem.W.nsIn K mainGlobals "dict" = some none) (n_enumerate : PySem.W.nsIn K mainGlobals "enumerate" = some none) (n_int : PySem.W.nsIn K mainGlobals "int" = some none) (n_isinstance : PySem.W.nsIn K mainGlobals "isinstance" = some none) (n_len : PySem.W.nsIn K mainGlobals "len" = some none) (n_list : PySem.W.nsIn K mainGlobals "list" = some none) (n_range : PySem.W.nsIn K mainGlobals "range" = some none) (n_str : PySem.W.nsIn K mainGlobals "str" = some none) (n_sum : PySem.W.nsIn K mainGlobals "sum" = some none) (n_tuple : PySem.W.nsIn K mainGlobals "tuple" = some none) (c_HIGHEST_COST : PySem.W.nsIn K mainGlobals "HIGHEST_COST" = some (some (.int 9 t_HIGHEST_COST))) (c_LONGEST_NAME : PySem.W.nsIn K mainGlobals "LONGEST_NAME" = some (some (.int 8 t_LONGEST_NAME))) (c_MOST_FIELDS : PySem.W.nsIn K mainGlobals "MOST_FIELDS" = some (some (.int 8 t_MOST_FIELDS))) (c_MOST_PRICES : PySem.W.nsIn K mainGlobals "MOST_PRICES" = some (some (.int 6 t_MOST_PRICES))) (a0 : PySem.W.nsIn K mainGlobals "_law_draw" = some (some (.ref f0))) (l0 : K.lookup f0 = some ⟨oc0, od0, .func (PySem.W.fnOf "_law_draw" "_law_draw" (defArgs (top 36)) (defBody (top 36)) (defScope (top 36)) .none kV0 dc0 pm0 an0 cd0 ct0), sl0⟩) (c0 : PySem.W.codeIn K cd0 "_law_draw" = true) (k0 : PySem.W.keepIn K (.ref f0) = true) (a1 : PySem.W.nsIn K mainGlobals "_law_cell_at" = some (some (.ref f1))) (l1 : K.lookup f1 = some ⟨oc1, od1, .func (PySem.W.fnOf "_law_cell_at" "_law_cell_at" (defArgs (top 37)) (defBody (top 37)) (defScope (top 37)) .none kV1 dc1 pm1 an1 cd1 ct1), sl1⟩) (c1 : PySem.W.codeIn K cd1 "_law_cell_at" = true) (k1 : PySem.W.keepIn K (.ref f1) = true) (a2 : PySem.W.nsIn K mainGlobals "_law_digits" = some (some (.ref f2))) (l2 : K.lookup f2 = some ⟨oc2, od2, .func (PySem.W.fnOf "_law_digits" "_law_digits" (defArgs (top 38)) (defBody (top 38)) (defScope (top 38)) .none kV2 dc2 pm2 an2 cd2 ct2), sl2⟩) (c2 : PySem.W.codeIn K cd2 "_law_digits" = true) (k2 : PySem.W.keepIn K (.ref f2) = true) (a3 : PySem.W.nsIn K mainGlobals "_law_pool" = some (some (.ref f3))) (l3 : K.lookup f3 = some ⟨oc3, od3, .func (PySem.W.fnOf "_law_pool" "_law_pool" (defArgs (top 40)) (defBody (top 40)) (defScope (top 40)) .none kV3 dc3 pm3 an3 cd3 ct3), sl3⟩) (c3 : PySem.W.codeIn K cd3 "_law_pool" = true) (k3 : PySem.W.keepIn K (.ref f3) = true) (a4 : PySem.W.nsIn K mainGlobals "_law_take" = some (some (.ref f4))) (l4 : K.lookup f4 = some ⟨oc4, od4, .func (PySem.W.fnOf "_law_take" "_law_take" (defArgs (top 39)) (defBody (top 39)) (defScope (top 39)) .none kV4 dc4 pm4 an4 cd4 ct4), sl4⟩) (c4 : PySem.W.codeIn K cd4 "_law_take" = true) (k4 : PySem.W.keepIn K (.ref f4) = true) (a5 : PySem.W.nsIn K mainGlobals "_law_drawn" = some (some (.ref f5))) (l5 : K.lookup f5 = some ⟨oc5, od5, .func (PySem.W.fnOf "_law_drawn" "_law_drawn" (defArgs (top 41)) (defBody (top 41)) (defScope (top 41)) .none kV5 dc5 pm5 an5 cd5 ct5), sl5⟩) (c5 : PySem.W.codeIn K cd5 "_law_drawn" = true) (k5 : PySem.W.keepIn K (.ref f5) = true) (a6 : PySem.W.nsIn K mainGlobals "is_number" = some (some (.ref f6))) (l6 : K.lookup f6 = some ⟨oc6, od6, .func (PySem.W.fnOf "is_number" "is_number" (defArgs (top 13)) (defBody (top 13)) (defScope (top 13)) .none kV6 dc6 pm6 an6 cd6 ct6), sl6⟩) (c6 : PySem.W.codeIn K cd6 "is_number" = true) (k6 : PySem.W.keepIn K (.ref f6) = true) (a7 : PySem.W.nsIn K mainGlobals "is_name" = some (some (.ref f7))) (l7 : K.lookup f7 = some ⟨oc7, od7, .func (PySem.W.fnOf "is_name" "is_name" (defArgs (top 12)) (defBody (top 12)) (defScope (top 12)) .none kV7 dc7 pm7 an7 cd7 ct7), sl7⟩) (c7 : PySem.W.codeIn K cd7 "is_name" = true) (k7 : PySem.W.keepIn K (.ref f7) = true) (a8 : PySem.W.nsIn K mainGlobals "are_different_names" = some (some (.ref f8))) (l8 : K.lookup f8 = some ⟨oc8, od8, .func (PySem.W.fnOf "are_different_names" "are_different_names" (defArgs (top 14)) (defBody (top 14)) (defScope (top 14)) .none kV8 dc8 pm8 an8 cd8 ct8), sl8⟩) (c8 : PySem.W.codeIn K cd8 "are_different_names" = true) (k8 : PySem.W.keepIn K (.ref f8) = true) (cl_0_pg : PySem.W.plainGet K C0 Str.empty = true) (cl_0_hd : PySem.W.hasDictIn K C0 = true) (cl_0_po : PySem.W.plainOver K C0 = true) (cl_0_sa : PySem.W.findIn K (.ref C0) "__setattr__" = some (some (.builtin "object.__setattr__"))) (na_0__owner : PySem.W.findIn K (.ref C0) "_owner" = some none) (na_0__targets : PySem.W.findIn K (.ref C0) "_targets" = some none) (na_0__goal : PySem.W.findIn K (.ref C0) "_goal" = some none) (a9 : PySem.W.findIn K (.ref C0) "__init__" = some (some (.ref f9))) (l9 : K.lookup f9 = some ⟨oc9, od9, .func (PySem.W.fnOf "__init__" "Field.__init__" (defArgs (inClass (top 15) 0)) (defBody (inClass (top 15) 0)) (defScope (inClass (top 15) 0)) .none kV9 dc9 pm9 an9 cd9 ct9), sl9⟩) (c9 : PySem.W.codeIn K cd9 "Field.__init__" = true) (k9 : PySem.W.keepIn K (.ref f9) = true) (i9 : PySem.W.isFn K (.ref f9) = true) (o9 : PySem.W.makesIn K C0 = true) (q9 : PySem.W.keepIn K (.ref C0) = true) (a10 : PySem.W.findIn K (.ref C0) "__init__" = some (some (.ref f10))) (l10 : K.lookup f10 = some ⟨oc10, od10, .func (PySem.W.fnOf "__init__" "Field.__init__" (defArgs (inClass (top 15) 0)) (defBody (inClass (top 15) 0)) (defScope (inClass (top 15) 0)) .none (.ref d10) dc10 pm10 an10 cd10 ct10), sl10⟩) (c10 : PySem.W.codeIn K cd10 "Field.__init__" = true) (u10 : PySem.W.nsIn K d10 "goal" = some (some (.bool false))) (i10 : PySem.W.isFn K (.ref f10) = true) (o10 : PySem.W.makesIn K C0 = true) (q10 : PySem.W.keepIn K (.ref C0) = true) (a11 : PySem.W.nsIn K mainGlobals "_law_field" = some (some (.ref f11))) (l11 : K.lookup f11 = some ⟨oc11, od11, .func (PySem.W.fnOf "_law_field" "_law_field" (defArgs (top 42)) (defBody (top 42)) (defScope (top 42)) .none kV11 dc11 pm11 an11 cd11 ct11), sl11⟩) (c11 : PySem.W.codeIn K cd11 "_law_field" = true) (k11 : PySem.W.keepIn K (.ref f11) = true) (ci_0_pg : PySem.W.plainGet K C0 Str.empty = true) (ci_0_hd : PySem.W.hasDictIn K C0 = true) (ci_0_po : PySem.W.plainOver K C0 = true) (ci_0_sa : PySem.W.findIn K (.ref C0) "__setattr__" = some (some (.builtin "object.__setattr__"))) (ci_0_ha : PySem.W.findIn K (.ref C0) "__class__" = some (some (.builtin "object.__class__"))) (ci_0_hn : PySem.W.specialIn K (.builtin "object.__class__") "__get__" = some (some (.builtin "getset_descriptor.__get__"))) (ci_0_ht : PySem.W.takesIn K (.builtin "object.__class__") = some true) (ci_0_hm : PySem.W.mroIn K C0 (.type "object") = some true) (a12 : PySem.W.findIn K (.ref C0) "targets" = some (some (.ref p12))) (rr12 : PySem.W.recIn K p12 "property" = some (.ref f12 :: r12)) (l12 : K.lookup f12 = some ⟨oc12, od12, .func (PySem.W.fnOf "targets" "Field.targets" (defArgs (inClass (top 15) 2)) (defBody (inClass (top 15) 2)) (defScope (inClass (top 15) 2)) .none kV12 dc12 pm12 an12 cd12 ct12), sl12⟩) (c12 : PySem.W.codeIn K cd12 "Field.targets" = true) (k12 : PySem.W.keepIn K (.ref f12) = true) (i12 : PySem.W.specialIn K (.ref p12) "__get__" = some (some (.builtin "property.__get__"))) (o12 : PySem.W.takesIn K (.ref p12) = some true) (a13 : PySem.W.nsIn K mainGlobals "is_field_within" = some (some (.ref f13))) (l13 : K.lookup f13 = some ⟨oc13, od13, .func (PySem.W.fnOf "is_field_within" "is_field_within" (defArgs (top 18)) (defBody (top 18)) (defScope (top 18)) .none kV13 dc13 pm13 an13 cd13 ct13), sl13⟩) (c13 : PySem.W.codeIn K cd13 "is_field_within" = true) (k13 : PySem.W.keepIn K (.ref f13) = true) (a14 : PySem.W.nsIn K mainGlobals "check_fields" = some (some (.ref f14))) (l14 : K.lookup f14 = some ⟨oc14, od14, .func (PySem.W.fnOf "check_fields" "check_fields" (defArgs (top 17)) (defBody (top 17)) (defScope (top 17)) .none kV14 dc14 pm14 an14 cd14 ct14), sl14⟩) (c14 : PySem.W.codeIn K cd14 "check_fields" = true) (k14 : PySem.W.keepIn K (.ref f14) = true) (a15 : PySem.W.nsIn K mainGlobals "is_pair_of_strings" = some (some (.ref f15))) (l15 : K.lookup f15 = some ⟨oc15, od15, .func (PySem.W.fnOf "is_pair_of_strings" "is_pair_of_strings" (defArgs (top 22)) (defBody (top 22)) (defScope (top 22)) .none kV15 dc15 pm15 an15 cd15 ct15), sl15⟩) (c15 : PySem.W.codeIn K cd15 "is_pair_of_strings" = true) (k15 : PySem.W.keepIn K (.ref f15) = true) (a16 : PySem.W.findIn K (.ref C0) "__contains__" = some (some (.ref f16))) (l16 : K.lookup f16 = some ⟨oc16, od16, .func (PySem.W.fnOf "__contains__" "Field.__contains__" (defArgs (inClass (top 15) 4)) (defBody (inClass (top 15) 4)) (defScope (inClass (top 15) 4)) .none kV16 dc16 pm16 an16 cd16 ct16), sl16⟩) (c16 : PySem.W.codeIn K cd16 "Field.__contains__" = true) (k16 : PySem.W.keepIn K (.ref f16) = true) (i16 : PySem.W.isFn K (.ref f16) = true) (o16 : PySem.W.fnIn K f16 = true) (a17 : PySem.W.nsIn K mainGlobals "is_move" = some (some (.ref f17))) (l17 : K.lookup f17 = some ⟨oc17, od17, .func (PySem.W.fnOf "is_move" "is_move" (defArgs (top 20)) (defBody (top 20)) (defScope (top 20)) .none kV17 dc17 pm17 an17 cd17 ct17), sl17⟩) (c17 : PySem.W.codeIn K cd17 "is_move" = true) (k17 : PySem.W.keepIn K (.ref f17) = true) (a18 : PySem.W.nsIn K mainGlobals "is_cost" = some (some (.ref f18))) (l18 : K.lookup f18 = some ⟨oc18, od18, .func (PySem.W.fnOf "is_cost" "is_cost" (defArgs (top 21)) (defBody (top 21)) (defScope (top 21)) .none kV18 dc18 pm18 an18 cd18 ct18), sl18⟩) (c18 : PySem.W.codeIn K cd18 "is_cost" = true) (k18 : PySem.W.keepIn K (.ref f18) = true) (a19 : PySem.W.nsIn K mainGlobals "are_prices" = some (some (.ref f19))) (l19 : K.lookup f19 = some ⟨oc19, od19, .func (PySem.W.fnOf "are_prices" "are_prices" (defArgs (top 19)) (defBody (top 19)) (defScope (top 19)) .none kV19 dc19 pm19 an19 cd19 ct19), sl19⟩) (c19 : PySem.W.codeIn K cd19 "are_prices" = true) (k19 : PySem.W.keepIn K (.ref f19) = true) (cl_1_pg : PySem.W.plainGet K C1 Str.empty = true) (cl_1_hd : PySem.W.hasDictIn K C1 = true) (cl_1_po : PySem.W.plainOver K C1 = true) (cl_1_sa : PySem.W.findIn K (.ref C1) "__setattr__" = some (some (.builtin "object.__setattr__"))) (na_1__fields : PySem.W.findIn K (.ref C1) "_fields" = some none) (na_1__start : PySem.W.findIn K (.ref C1) "_start" = some none) (na_1__prices : PySem.W.findIn K (.ref C1) "_prices" = some none) (a20 : PySem.W.findIn K (.ref C1) "__init__" = some (some (.ref f20))) (l20 : K.lookup f20 = some ⟨oc20, od20, .func (PySem.W.fnOf "__init__" "Board.__init__" (defArgs (inClass (top 16) 0)) (defBody (inClass (top 16) 0)) (defScope (inClass (top 16) 0)) .none kV20 dc20 pm20 an20 cd20 ct20), sl20⟩) (c20 : PySem.W.codeIn K cd20 "Board.__init__" = true) (k20 : PySem.W.keepIn K (.ref f20) = true) (i20 : PySem.W.isFn K (.ref f20) = true) (o20 : PySem.W.makesIn K C1 = true) (q20 : PySem.W.keepIn K (.ref C1) = true) (a21 : PySem.W.nsIn K mainGlobals "_law_built" = some (some (.ref f21))) (l21 : K.lookup f21 = some ⟨oc21, od21, .func (PySem.W.fnOf "_law_built" "_law_built" (defArgs (top 43)) (defBody (top 43)) (defScope (top 43)) .none kV21 dc21 pm21 an21 cd21 ct21), sl21⟩) (c21 : PySem.W.codeIn K cd21 "_law_built" = true) (k21 : PySem.W.keepIn K (.ref f21) = true) (a22 : PySem.W.nsIn K mainGlobals "_law_set" = some (some (.ref f22))) (l22 : K.lookup f22 = some ⟨oc22, od22, .func (PySem.W.fnOf "_law_set" "_law_set" (defArgs (top 47)) (defBody (top 47)) (defScope (top 47)) .none kV22 dc22 pm22 an22 cd22 ct22), sl22⟩) (c22 : PySem.W.codeIn K cd22 "_law_set" = true) (k22 : PySem.W.keepIn K (.ref f22) = true) (a23 : PySem.W.nsIn K mainGlobals "_law_row" = some (some (.ref f23))) (l23 : K.lookup f23 = some ⟨oc23, od23, .func (PySem.W.fnOf "_law_row" "_law_row" (defArgs (top 44)) (defBody (top 44)) (defScope (top 44)) .none kV23 dc23 pm23 an23 cd23 ct23), sl23⟩) (c23 : PySem.W.codeIn K cd23 "_law_row" = true) (k23 : PySem.W.keepIn K (.ref f23) = true) (a24 : PySem.W.nsIn K mainGlobals "_law_ways" = some (some (.ref f24))) (l24 : K.lookup f24 = some ⟨oc24, od24, .func (PySem.W.fnOf "_law_ways" "_law_ways" (defArgs (top 45)) (defBody (top 45)) (defScope (top 45)) .none kV24 dc24 pm24 an24 cd24 ct24), sl24⟩) (c24 : PySem.W.codeIn K cd24 "_law_ways" = true) (k24 : PySem.W.keepIn K (.ref f24) = true) (a25 : PySem.W.nsIn K mainGlobals "_law_far" = some (some (.ref f25))) (l25 : K.lookup f25 = some ⟨oc25, od25, .func (PySem.W.fnOf "_law_far" "_law_far" (defArgs (top 46)) (defBody (top 46)) (defScope (top 46)) .none kV25 dc25 pm25 an25 cd25 ct25), sl25⟩) (c25 : PySem.W.codeIn K cd25 "_law_far" = true) (k25 : PySem.W.keepIn K (.ref f25) = true) (ci_1_pg : PySem.W.plainGet K C1 Str.empty = true) (ci_1_hd : PySem.W.hasDictIn K C1 = true) (ci_1_po : PySem.W.plainOver K C1 = true) (ci_1_sa : PySem.W.findIn K (.ref C1) "__setattr__" = some (some (.builtin "object.__setattr__"))) (ci_1_ha : PySem.W.findIn K (.ref C1) "__class__" = some (some (.builtin "object.__class__"))) (ci_1_hn : PySem.W.specialIn K (.builtin "object.__class__") "__get__" = some (some (.builtin "getset_descriptor.__get__"))) (ci_1_ht : PySem.W.takesIn K (.builtin "object.__class__") = some true) (ci_1_hm : PySem.W.mroIn K C1 (.type "object") = some true) (a26 : PySem.W.nsIn K mainGlobals "check_board" = some (some (.ref f26))) (l26 : K.lookup f26 = some ⟨oc26, od26, .func (PySem.W.fnOf "check_board" "check_board" (defArgs (top 26)) (defBody (top 26)) (defScope (top 26)) .none kV26 dc26 pm26 an26 cd26 ct26), sl26⟩) (c26 : PySem.W.codeIn K cd26 "check_board" = true) (k26 : PySem.W.keepIn K (.ref f26) = true) (a27 : PySem.W.findIn K (.ref C1) "__contains__" = some (some (.ref f27))) (l27 : K.lookup f27 = some ⟨oc27, od27, .func (PySem.W.fnOf "__contains__" "Board.__contains__" (defArgs (inClass (top 16) 6)) (defBody (inClass (top 16) 6)) (defScope (inClass (top 16) 6)) .none kV27 dc27 pm27 an27 cd27 ct27), sl27⟩) (c27 : PySem.W.codeIn K cd27 "Board.__contains__" = true) (k27 : PySem.W.keepIn K (.ref f27) = true) (i27 : PySem.W.isFn K (.ref f27) = true) (o27 : PySem.W.fnIn K f27 = true) (a28 : PySem.W.findIn K (.ref C1) "moves" = some (some (.ref p28))) (rr28 : PySem.W.recIn K p28 "property" = some (.ref f28 :: r28)) (l28 : K.lookup f28 = some ⟨oc28, od28, .func (PySem.W.fnOf "moves" "Board.moves" (defArgs (inClass (top 16) 3)) (defBody (inClass (top 16) 3)) (defScope (inClass (top 16) 3)) .none kV28 dc28 pm28 an28 cd28 ct28), sl28⟩) (c28 : PySem.W.codeIn K cd28 "Board.moves" = true) (k28 : PySem.W.keepIn K (.ref f28) = true) (i28 : PySem.W.specialIn K (.ref p28) "__get__" = some (some (.builtin "property.__get__"))) (o28 : PySem.W.takesIn K (.ref p28) = some true) (a29 : PySem.W.nsIn K mainGlobals "check_set" = some (some (.ref f29))) (l29 : K.lookup f29 = some ⟨oc29, od29, .func (PySem.W.fnOf "check_set" "check_set" (defArgs (top 27)) (defBody (top 27)) (defScope (top 27)) .none kV29 dc29 pm29 an29 cd29 ct29), sl29⟩) (c29 : PySem.W.codeIn K cd29 "check_set" = true) (k29 : PySem.W.keepIn K (.ref f29) = true) (a30 : PySem.W.findIn K (.ref C1) "names" = some (some (.ref p30))) (rr30 : PySem.W.recIn K p30 "property" = some (.ref f30 :: r30)) (l30 : K.lookup f30 = some ⟨oc30, od30, .func (PySem.W.fnOf "names" "Board.names" (defArgs (inClass (top 16) 1)) (defBody (inClass (top 16) 1)) (defScope (inClass (top 16) 1)) .none kV30 dc30 pm30 an30 cd30 ct30), sl30⟩) (c30 : PySem.W.codeIn K cd30 "Board.names" = true) (k30 : PySem.W.keepIn K (.ref f30) = true) (i30 : PySem.W.specialIn K (.ref p30) "__get__" = some (some (.builtin "property.__get__"))) (o30 : PySem.W.takesIn K (.ref p30) = some true) (a31 : PySem.W.findIn K (.ref C1) "__getitem__" = some (some (.ref f31))) (l31 : K.lookup f31 = some ⟨oc31, od31, .func (PySem.W.fnOf "__getitem__" "Board.__getitem__" (defArgs (inClass (top 16) 4)) (defBody (inClass (top 16) 4)) (defScope (inClass (top 16) 4)) .none kV31 dc31 pm31 an31 cd31 ct31), sl31⟩) (c31 : PySem.W.codeIn K cd31 "Board.__getitem__" = true) (k31 : PySem.W.keepIn K (.ref f31) = true) (i31 : PySem.W.isFn K (.ref f31) = true) (o31 : PySem.W.fnIn K f31 = true) (a32 : PySem.W.nsIn K mainGlobals "steps_from" = some (some (.ref f32))) (l32 : K.lookup f32 = some ⟨oc32, od32, .func (PySem.W.fnOf "steps_from" "steps_from" (defArgs (top 24)) (defBody (top 24)) (defScope (top 24)) .none kV32 dc32 pm32 an32 cd32 ct32), sl32⟩) (c32 : PySem.W.codeIn K cd32 "steps_from" = true) (k32 : PySem.W.keepIn K (.ref f32) = true) (a33 : PySem.W.findIn K (.ref C0) "goal" = some (some (.ref p33))) (rr33 : PySem.W.recIn K p33 "property" = some (.ref f33 :: r33)) (l33 : K.lookup f33 = some ⟨oc33, od33, .func (PySem.W.fnOf "goal" "Field.goal" (defArgs (inClass (top 15) 3)) (defBody (inClass (top 15) 3)) (defScope (inClass (top 15) 3)) .none kV33 dc33 pm33 an33 cd33 ct33), sl33⟩) (c33 : PySem.W.codeIn K cd33 "Field.goal" = true) (k33 : PySem.W.keepIn K (.ref f33) = true) (i33 : PySem.W.specialIn K (.ref p33) "__get__" = some (some (.builtin "property.__get__"))) (o33 : PySem.W.takesIn K (.ref p33) = some true) (a34 : PySem.W.findIn K (.ref C0) "owner" = some (some (.ref p34))) (rr34 : PySem.W.recIn K p34 "property" = some (.ref f34 :: r34)) (l34 : K.lookup f34 = some ⟨oc34, od34, .func (PySem.W.fnOf "owner" "Field.owner" (defArgs (inClass (top 15) 1)) (defBody (inClass (top 15) 1)) (defScope (inClass (top 15) 1)) .none kV34 dc34 pm34 an34 cd34 ct34), sl34⟩) (c34 : PySem.W.codeIn K cd34 "Field.owner" = true) (k34 : PySem.W.keepIn K (.ref f34) = true) (i34 : PySem.W.specialIn K (.ref p34) "__get__" = some (some (.builtin "property.__get__"))) (o34 : PySem.W.takesIn K (.ref p34) = some true) (a35 : PySem.W.nsIn K mainGlobals "is_forced" = some (some (.ref f35))) (l35 : K.lookup f35 = some ⟨oc35, od35, .func (PySem.W.fnOf "is_forced" "is_forced" (defArgs (top 33)) (defBody (top 33)) (defScope (top 33)) .none kV35 dc35 pm35 an35 cd35 ct35), sl35⟩) (c35 : PySem.W.codeIn K cd35 "is_forced" = true) (k35 : PySem.W.keepIn K (.ref f35) = true) (a36 : PySem.W.nsIn K mainGlobals "is_won_by" = some (some (.ref f36))) (l36 : K.lookup f36 = some ⟨oc36, od36, .func (PySem.W.fnOf "is_won_by" "is_won_by" (defArgs (top 32)) (defBody (top 32)) (defScope (top 32)) .none kV36 dc36 pm36 an36 cd36 ct36), sl36⟩) (c36 : PySem.W.codeIn K cd36 "is_won_by" = true) (k36 : PySem.W.keepIn K (.ref f36) = true) (a37 : PySem.W.nsIn K mainGlobals "distances" = some (some (.ref f37))) (l37 : K.lookup f37 = some ⟨oc37, od37, .func (PySem.W.fnOf "distances" "distances" (defArgs (top 31)) (defBody (top 31)) (defScope (top 31)) .none kV37 dc37 pm37 an37 cd37 ct37), sl37⟩) (c37 : PySem.W.codeIn K cd37 "distances" = true) (k37 : PySem.W.keepIn K (.ref f37) = true) (a38 : PySem.W.findIn K (.ref C1) "start" = some (some (.ref p38))) (rr38 : PySem.W.recIn K p38 "property" = some (.ref f38 :: r38)) (l38 : K.lookup f38 = some ⟨oc38, od38, .func (PySem.W.fnOf "start" "Board.start" (defArgs (inClass (top 16) 2)) (defBody (inClass (top 16) 2)) (defScope (inClass (top 16) 2)) .none kV38 dc38 pm38 an38 cd38 ct38), sl38⟩) (c38 : PySem.W.codeIn K cd38 "Board.start" = true) (k38 : PySem.W.keepIn K (.ref f38) = true) (i38 : PySem.W.specialIn K (.ref p38) "__get__" = some (some (.builtin "property.__get__"))) (o38 : PySem.W.takesIn K (.ref p38) = some true) (a39 : PySem.W.nsIn K mainGlobals "is_winning" = some (some (.ref f39))) (l39 : K.lookup f39 = some ⟨oc39, od39, .func (PySem.W.fnOf "is_winning" "is_winning" (defArgs (top 34)) (defBody (top 34)) (defScope (top 34)) .none kV39 dc39 pm39 an39 cd39 ct39), sl39⟩) (c39 : PySem.W.codeIn K cd39 "is_winning" = true) (k39 : PySem.W.keepIn K (.ref f39) = true) (a40 : PySem.W.nsIn K mainGlobals "_law_game_right" = some (some (.ref f40))) (l40 : K.lookup f40 = some ⟨oc40, od40, .func (PySem.W.fnOf "_law_game_right" "_law_game_right" (defArgs (top 48)) (defBody (top 48)) (defScope (top 48)) .none kV40 dc40 pm40 an40 cd40 ct40), sl40⟩) (c40 : PySem.W.codeIn K cd40 "_law_game_right" = true) (k40 : PySem.W.keepIn K (.ref f40) = true) (a41 : PySem.W.nsIn K mainGlobals "law" = some (some (.ref f41))) (l41 : K.lookup f41 = some ⟨oc41, od41, .func (PySem.W.fnOf "law" "law" (defArgs (top 49)) (defBody (top 49)) (defScope (top 49)) .none kV41 dc41 pm41 an41 cd41 ct41), sl41⟩) (c41 : PySem.W.codeIn K cd41 "law" = true) (k41 : PySem.W.keepIn K (.ref f41) = true) : Tx K mg (caX C0 C1) where
  n_abs := PySem.W.mg_none_of X G n_abs
  n_all := PySem.W.mg_none_of X G n_all
  n_any := PySem.W.mg_none_of X G n_any
  n_bool := PySem.W.mg_none_of X G n_bool
  n_dict := PySem.W.mg_none_of X G n_dict
  n_enumerate := PySem.W.mg_none_of X G n_enumerate
  n_int := PySem.W.mg_none_of X G n_int
  n_isinstance := PySem.W.mg_none_of X G n_isinstance
  n_len := PySem.W.mg_none_of X G n_len
  n_list := PySem.W.mg_none_of X G n_list
  n_range := PySem.W.mg_none_of X G n_range
  n_str := PySem.W.mg_none_of X G n_str
  n_sum := PySem.W.mg_none_of X G n_sum
  n_tuple := PySem.W.mg_none_of X G n_tuple
  c_HIGHEST_COST := ⟨_, PySem.W.mg_of X G c_HIGHEST_COST⟩
  c_LONGEST_NAME := ⟨_, PySem.W.mg_of X G c_LONGEST_NAME⟩
  c_MOST_FIELDS := ⟨_, PySem.W.mg_of X G c_MOST_FIELDS⟩
  c_MOST_PRICES := ⟨_, PySem.W.mg_of X G c_MOST_PRICES⟩
  d__law_draw := def_mk X G a0 l0 c0 k0
  d__law_cell_at := def_mk X G a1 l1 c1 k1
  d__law_digits := def_mk X G a2 l2 c2 k2
  d__law_pool := def_mk X G a3 l3 c3 k3
  d__law_take := def_mk X G a4 l4 c4 k4
  d__law_drawn := def_mk X G a5 l5 c5 k5
  d_is_number := def_mk X G a6 l6 c6 k6
  d_is_name := def_mk X G a7 l7 c7 k7
  d_are_different_names := def_mk X G a8 l8 c8 k8
  cl_0 := cls_mk cl_0_pg cl_0_hd cl_0_po cl_0_sa
  na_0__owner := na_0__owner
  na_0__targets := na_0__targets
  na_0__goal := na_0__goal
  i_Field := idef_mk a9 l9 c9 k9 i9 o9 q9
  ik_Field := idefk_mk a10 l10 c10 u10 rfl i10 o10 q10
  g_Field := PySem.W.mg_of X G g_Field
  d__law_field := def_mk X G a11 l11 c11 k11
  ci_0 := clsI_mk (cls_mk ci_0_pg ci_0_hd ci_0_po ci_0_sa) ci_0_ha ci_0_hn ci_0_ht ci_0_hm
  p_Field_targets := pdef_mk a12 rr12 l12 c12 k12 i12 o12
  d_is_field_within := def_mk X G a13 l13 c13 k13
  d_check_fields := def_mk X G a14 l14 c14 k14
  d_is_pair_of_strings := def_mk X G a15 l15 c15 k15
  m_Field___contains__ := mdef_mk a16 l16 c16 k16 i16 o16
  d_is_move := def_mk X G a17 l17 c17 k17
  d_is_cost := def_mk X G a18 l18 c18 k18
  d_are_prices := def_mk X G a19 l19 c19 k19
  cl_1 := cls_mk cl_1_pg cl_1_hd cl_1_po cl_1_sa
  na_1__fields := na_1__fields
  na_1__start := na_1__start
  na_1__prices := na_1__prices
  i_Board := idef_mk a20 l20 c20 k20 i20 o20 q20
  g_Board := PySem.W.mg_of X G g_Board
  d__law_built := def_mk X G a21 l21 c21 k21
  d__law_set := def_mk X G a22 l22 c22 k22
  d__law_row := def_mk X G a23 l23 c23 k23
  d__law_ways := def_mk X G a24 l24 c24 k24
  d__law_far := def_mk X G a25 l25 c25 k25
  ci_1 := clsI_mk (cls_mk ci_1_pg ci_1_hd ci_1_po ci_1_sa) ci_1_ha ci_1_hn ci_1_ht ci_1_hm
  d_check_board := def_mk X G a26 l26 c26 k26
  m_Board___contains__ := mdef_mk a27 l27 c27 k27 i27 o27
  p_Board_moves := pdef_mk a28 rr28 l28 c28 k28 i28 o28
  d_check_set := def_mk X G a29 l29 c29 k29
  p_Board_names := pdef_mk a30 rr30 l30 c30 k30 i30 o30
  m_Board___getitem__ := mdef_mk a31 l31 c31 k31 i31 o31
  d_steps_from := def_mk X G a32 l32 c32 k32
  p_Field_goal := pdef_mk a33 rr33 l33 c33 k33 i33 o33
  p_Field_owner := pdef_mk a34 rr34 l34 c34 k34 i34 o34
  d_is_forced := def_mk X G a35 l35 c35 k35
  d_is_won_by := def_mk X G a36 l36 c36 k36
  d_distances := def_mk X G a37 l37 c37 k37
  p_Board_start := pdef_mk a38 rr38 l38 c38 k38 i38 o38
  d_is_winning := def_mk X G a39 l39 c39 k39
  d__law_game_right := def_mk X G a40 l40 c40 k40
  d_law := def_mk X G a41 l41 c41 k41
theorem law_ok {P : Program} {w : World} {K : PySem.W.Frag} {mg : Str → Option Value} {base : Heap} {ca : Nat → Addr} {xn : Nat → List Str} (T : Tx K mg ca) {f : Addr} {fd : FuncData} (F : Fun K "law" "law" s_law f fd) : FnOk P w K mg base (L2.CX P w) 8 f fd ["_law_script"] (spF K ca fnX xn 1 F_law) :=
  okF (k := 7) F sc_law (by decide) fun l cdv A outer s H W hr => by
    have hu65 := hu_of hr
    have hu64 := Nat.lt_of_succ_lt hu65
    have nd := nd_law
    exact d_law T l hr hu65 hu64 nd
theorem law_bind {an : Option Addr} {kV doc pm cdv ct : Value} (s : Shared) (u : Value) : BindsTo s (PySem.W.fnOf "law" "law" (defArgs s_law) (defBody s_law) (defScope s_law) .none kV doc pm an cdv ct) ⟨[u], []⟩ [("_law_script", u)] := .of_eq rfl
theorem law_all (hF : ∀ ns : List Int, ns.length ≤ 63 → ∃ s, F_law [.scr (ns.map T.int)] [] = .ok (.bl true) s) {l : PySem.W.OpenLaw} {w : World} {K : PySem.W.Frag} {h : Heap} {mg : Str → Option Value} {ca : Nat → Addr} {fa f : Addr} (X : K.In h) (G : h.Ns mainGlobals mg) (hfa : mg "law" = some (.ref fa)) (T : Tx K mg ca)
    {oc : Value} {od an : Option Addr} {osl : Array (Option Value)} {kV doc pm cdv ct : Value} (a : PySem.W.nsIn K mainGlobals "law" = some (some (.ref f))) (lk : K.lookup f = some ⟨oc, od, .func (PySem.W.fnOf "law" "law" (defArgs s_law) (defBody s_law) (defScope s_law) .none kV doc pm an cdv ct), osl⟩) (c : PySem.W.codeIn K cdv "law" = true) (k : PySem.W.keepIn K (.ref f) = true) :
    ∃ fd : FuncData, (∀ (s : Shared) (u : Value), BindsTo s fd ⟨[u], []⟩ [("_law_script", u)]) ∧ ∀ base : Heap, K.In base → base.Ns mainGlobals mg → FnOk l.prog w K mg base (L2.CX l.prog w) 8 fa fd ["_law_script"] (spEnd K) := by
  have e := hfa.symm.trans (PySem.W.mg_of X G a)
  cases e
  exact ⟨_, fun s u => law_bind s u, fun base _ _ => fnok_end hF (law_ok (xn := fun _ => []) T (fun_mk lk c k))⟩
end V

set_option Elab.async false
set_option linter.all false
set_option maxRecDepth 100000
set_option maxHeartbeats 4000000
namespace Sh
open PySem PySem.Spec PyProof.Rows L2
/-! ### reckoning with outcomes -/
@[simp] theorem z_ok {α β : Type} (a : α) (s : Sto) (k : α → Sto → Z β) : (Z.ok a s).then k = k a s := rfl
@[simp] theorem z_bad {α β : Type} (k : α → Sto → Z β) : (Z.bad : Z α).then k = .bad := rfl
@[simp] theorem z_exc {α β : Type} (c : Nat) (x : List T) (s : Sto) (k : α → Sto → Z β) : (Z.exc c x s : Z α).then k = .exc c x s := rfl
@[simp] theorem noX_okE {α : Type} (a : α) (s : Sto) : noX (Z.ok a s) = .ok a s := rfl
mutual
theorem fz_pur (fn : Nat → List Str) (n : Nat) (s : Sto) : ∀ {t : T}, pur t = true → fz fn n s t = some t
  | .non, _ => rfl
  | .bl _, _ => rfl
  | .int _, _ => rfl
  | .str _, _ => rfl
  | .tup xs, h => by unfold fz; rw [fzs_pur fn n s (show purs xs = true from h)]; rfl
  | .lst xs, h => by unfold fz; rw [fzs_pur fn n s (show purs xs = true from h)]; rfl
  | .scr xs, h => by unfold fz; rw [fzs_pur fn n s (show purs xs = true from h)]; rfl
  | .tupK xs, h => by unfold fz; rw [fzs_pur fn n s (show purs xs = true from h)]; rfl
  | .dK ks xs, h => by unfold fz; rw [fzs_pur fn n s (show purs xs = true from h)]; rfl
  | .dT ks xs, h => by unfold fz; rw [fzs_pur fn n s (show purs xs = true from h)]; rfl
  | .ins c xs, h => by unfold fz; rw [fzs_pur fn n s (show purs xs = true from h)]; rfl
  | .cell i, h => by cases h
theorem fzs_pur (fn : Nat → List Str) (n : Nat) (s : Sto) : ∀ {ts : List T}, purs ts = true → fzs fn n s ts = some ts
  | [], _ => rfl
  | x :: xs, h => by
    unfold purs at h
    rw [Bool.and_eq_true] at h
    unfold fzs
    rw [fz_pur fn n s h.1, fzs_pur fn n s h.2]
end
/-- a def whose body hands back a value without cells -/
theorem defF_rt {fn : Nat → List Str} {n N : Nat} {b : Fs} {as : List T} {st s' : Sto} {t : T} (hl : as.length = n) (hb : b (startL N as) st = .ok (.rt t) s') (hp : pur t = true) : defF fn n N b as st = .ok t (s'.take st.length) := by
  unfold defF
  rw [if_pos hl]
  unfold runB
  rw [hb]
  show trunc fn st.length (.ok t s') = _
  unfold trunc
  simp only [fz_pur fn _ _ hp]
theorem defF_nx {fn : Nat → List Str} {n N : Nat} {b : Fs} {as : List T} {st s' : Sto} {ρ : Lo} (hl : as.length = n) (hb : b (startL N as) st = .ok (.nx ρ) s') : defF fn n N b as st = .ok .non (s'.take st.length) := by
  unfold defF
  rw [if_pos hl]
  unfold runB
  rw [hb]
  rfl
/-- .. and leaves the store as it was -/
theorem defF_rt0 {fn : Nat → List Str} {n N : Nat} {b : Fs} {as : List T} {st : Sto} {t : T} (hl : as.length = n) (hb : b (startL N as) st = .ok (.rt t) st) (hp : pur t = true) : defF fn n N b as st = .ok t st := by
  rw [defF_rt hl hb hp, List.take_length]
theorem defF_nx0 {fn : Nat → List Str} {n N : Nat} {b : Fs} {as : List T} {st : Sto} {ρ : Lo} (hl : as.length = n) (hb : b (startL N as) st = .ok (.nx ρ) st) : defF fn n N b as st = .ok .non st := by
  rw [defF_nx hl hb, List.take_length]
/-- .. with cells of its own -/
theorem defF_rtA {fn : Nat → List Str} {n N : Nat} {b : Fs} {as : List T} {st ex : Sto} {t : T} (hl : as.length = n) (hb : b (startL N as) st = .ok (.rt t) (st ++ ex)) (hp : pur t = true) : defF fn n N b as st = .ok t st := by
  rw [defF_rt hl hb hp, List.take_left]
theorem defF_nxA {fn : Nat → List Str} {n N : Nat} {b : Fs} {as : List T} {st ex : Sto} {ρ : Lo} (hl : as.length = n) (hb : b (startL N as) st = .ok (.nx ρ) (st ++ ex)) : defF fn n N b as st = .ok .non st := by
  rw [defF_nx hl hb, List.take_left]
/-- .. a value that stands in cells of its own -/
theorem defF_fz {fn : Nat → List Str} {n N : Nat} {b : Fs} {as : List T} {st st' ex : Sto} {t t' : T} (hl : as.length = n) (hb : b (startL N as) st = .ok (.rt t) (st' ++ ex)) (hs : st'.length = st.length) (hf : fz fn st.length (st' ++ ex) t = some t') : defF fn n N b as st = .ok t' st' := by
  unfold defF
  rw [if_pos hl]
  unfold runB
  rw [hb]
  show trunc fn st.length (.ok t (st' ++ ex)) = _
  unfold trunc
  simp only [hf]
  show Z.ok t' ((st' ++ ex).take st.length) = _
  rw [← hs, List.take_left]
section
variable {α : Type}
/-- a comprehension whose parts change nothing -/
theorem cLoop_map {g : Tg} {c : Fb} {e : Fx} {ρ : Lo} {s : Sto} {enc : α → T} {p : α → Bool} {h : α → T} : ∀ (l : List α), (∀ a ∈ l, ∃ ρ', g (enc a) ρ = some ρ' ∧ c ρ' s = .ok (p a) s ∧ (p a = true → e ρ' s = .ok (h a) s)) →
    cLoop g c e ρ (l.map enc) s = .ok ((l.filter p).map h) s
  | [], _ => rfl
  | a :: l, hh => by
    obtain ⟨ρ', h1, h2, h3⟩ := hh a (by simp)
    have ih := cLoop_map l fun b hb => hh b (List.mem_cons_of_mem _ hb)
    rw [List.map_cons]
    unfold cLoop
    rw [h1]
    simp only [h2, noX_okE, z_ok]
    cases hp : p a with
    | true => simp only [if_true, h3 hp, noX_okE, z_ok, ih, List.filter_cons, hp, if_true, List.map_cons]
    | false => simp only [Bool.false_eq_true, if_false, ih, List.filter_cons, hp]
/-- .. without a condition -/
theorem cLoop_all {g : Tg} {e : Fx} {ρ : Lo} {s : Sto} {enc : α → T} {h : α → T} (l : List α) (hh : ∀ a ∈ l, ∃ ρ', g (enc a) ρ = some ρ' ∧ e ρ' s = .ok (h a) s) : cLoop g bYes e ρ (l.map enc) s = .ok (l.map h) s := by
  have := cLoop_map (c := bYes) (p := fun _ => true) (h := h) l fun a ha => by
    obtain ⟨ρ', h1, h2⟩ := hh a ha
    exact ⟨ρ', h1, rfl, fun _ => h2⟩
  rw [this, List.filter_eq_self.mpr (fun _ _ => rfl)]
/-- a loop by what stands after each turn -/
theorem loop_inv {g : Tg} {b : Fs} {enc : α → T} (P : List α → Lo → Sto → Prop) (stp : ∀ a r ρ s, P (a :: r) ρ s → ∃ ρ' ρ2 s', g (enc a) ρ = some ρ' ∧ b ρ' s = .ok (.nx ρ2) s' ∧ P r ρ2 s') : ∀ (l : List α) (ρ : Lo) (s : Sto), P l ρ s → ∃ ρ' s', loop g b (l.map enc) ρ s = .ok (.nx ρ') s' ∧ P [] ρ' s'
  | [], ρ, s, h => ⟨ρ, s, rfl, h⟩
  | a :: l, ρ, s, h => by
    obtain ⟨ρ', ρ2, s', h1, h2, h3⟩ := stp a l ρ s h
    obtain ⟨ρ3, s3, h4, h5⟩ := loop_inv P stp l ρ2 s' h3
    refine ⟨ρ3, s3, ?_, h5⟩
    rw [List.map_cons]
    unfold loop
    rw [h1]
    simp only [h2, z_ok]
    exact h4
end
theorem bools_map (l : List Bool) : bools (l.map T.bl) = some l := by
  induction l with
  | nil => rfl
  | cons b l ih => rw [List.map_cons]; unfold bools; rw [ih]; rfl
theorem bools_mapf {α : Type} (f : α → Bool) (l : List α) : bools (l.map fun a => T.bl (f a)) = some (l.map f) := by
  rw [← bools_map (l.map f), List.map_map]; rfl
theorem purs_map {α : Type} {f : α → T} (h : ∀ a, pur (f a) = true) : ∀ l : List α, purs (l.map f) = true
  | [] => rfl
  | a :: l => by rw [List.map_cons]; unfold purs; rw [h a, purs_map h l]; rfl
@[simp] theorem purs_nil : purs [] = true := rfl
@[simp] theorem purs_cons (x : T) (xs : List T) : purs (x :: xs) = (pur x && purs xs) := rfl
@[simp] theorem pur_int (i : Int) : pur (.int i) = true := rfl
@[simp] theorem pur_str (i : Str) : pur (.str i) = true := rfl
@[simp] theorem pur_bl (i : Bool) : pur (.bl i) = true := rfl
@[simp] theorem pur_non : pur .non = true := rfl
@[simp] theorem pur_tup (xs : List T) : pur (.tup xs) = purs xs := rfl
@[simp] theorem pur_lst (xs : List T) : pur (.lst xs) = purs xs := rfl
@[simp] theorem pur_ins (c : Nat) (xs : List T) : pur (.ins c xs) = purs xs := rfl
@[simp] theorem pur_dK (ks : List Key) (xs : List T) : pur (.dK ks xs) = purs xs := rfl
@[simp] theorem pur_dT (ks : List (List Key)) (xs : List T) : pur (.dT ks xs) = purs xs := rfl
@[simp] theorem purs_strs (l : List Str) : purs (l.map T.str) = true := purs_map (fun _ => rfl) l
@[simp] theorem purs_ints (l : List Int) : purs (l.map T.int) = true := purs_map (fun _ => rfl) l
@[simp] theorem purs_bls (l : List Bool) : purs (l.map T.bl) = true := purs_map (fun _ => rfl) l
/-- data -/
theorem toPys_strs : ∀ l : List Str, toPys (l.map T.str) = some (l.map PyData.str)
  | [] => rfl
  | a :: l => by rw [List.map_cons]; unfold toPys; rw [toPys_strs l]; rfl
/-! the store's end -/
theorem get_app {st ex : Sto} (k : Nat) : (st ++ ex)[st.length + k]? = ex[k]? := by
  rw [List.getElem?_append_right (Nat.le_add_right _ _), Nat.add_sub_cancel_left]
theorem get_app0 {st ex : Sto} : (st ++ ex)[st.length]? = ex[0]? := get_app 0
theorem set_app {st ex : Sto} (k : Nat) (y : Bool × MO) : (st ++ ex).set (st.length + k) y = st ++ ex.set k y := by
  rw [List.set_append_right _ _ (Nat.le_add_right _ _), Nat.add_sub_cancel_left]
theorem set_app0 {st ex : Sto} (y : Bool × MO) : (st ++ ex).set st.length y = st ++ ex.set 0 y := set_app 0 y
theorem get_lo {st ex : Sto} {i : Nat} {p : Bool × MO} (h : st[i]? = some p) : (st ++ ex)[i]? = some p := by
  rw [List.getElem?_append_left (List.getElem?_eq_some_iff.mp h).1]
  exact h
/-! operators on what is known -/
theorem le_int (i j : Int) (s : Sto) : hLe (.int i) (.int j) s = .ok (.bl (decide (i ≤ j))) s := rfl
theorem lt_int (i j : Int) (s : Sto) : hLt (.int i) (.int j) s = .ok (.bl (decide (i < j))) s := rfl
theorem gt_int (i j : Int) (s : Sto) : hGt (.int i) (.int j) s = .ok (.bl (decide (j < i))) s := rfl
theorem ge_int (i j : Int) (s : Sto) : hGe (.int i) (.int j) s = .ok (.bl (decide (j ≤ i))) s := rfl
theorem add_int (i j : Int) (s : Sto) : hAddF (.int i) (.int j) s = .ok (.int (i + j)) s := rfl
theorem sub_int (i j : Int) (s : Sto) : hSub (.int i) (.int j) s = .ok (.int (i - j)) s := rfl
theorem mod_int {i j : Int} (h : j ≠ 0) (s : Sto) : hMod (.int i) (.int j) s = .ok (.int (i.fmod j)) s := by
  unfold hMod hI2
  simp [h]
theorem mul_int {i j : Int} (h : (-(2 ^ 64) < i ∧ i < 2 ^ 64) ∨ (-(2 ^ 64) < j ∧ j < 2 ^ 64)) (s : Sto) : hMul (.int i) (.int j) s = .ok (.int (i * j)) s := by
  exact if_pos (decide_eq_true h)
theorem len_lst (xs : List T) (s : Sto) : hLen [.lst xs] s = .ok (.int xs.length) s := rfl
theorem len_tup (xs : List T) (s : Sto) : hLen [.tup xs] s = .ok (.int xs.length) s := rfl
theorem len_dK (ks : List Key) (xs : List T) (s : Sto) : hLen [.dK ks xs] s = .ok (.int ks.length) s := rfl
theorem len_dT (ks : List (List Key)) (xs : List T) (s : Sto) : hLen [.dT ks xs] s = .ok (.int ks.length) s := rfl
theorem ixe_tup (xs : List T) (i : Int) (s : Sto) : hIx (.tup xs) (.int i) s = match atI xs i with | some t => .ok t s | none => .bad := rfl
theorem ixe_lst (xs : List T) (i : Int) (s : Sto) : hIx (.lst xs) (.int i) s = match atI xs i with | some t => .ok t s | none => .bad := rfl
theorem at_0 {α : Type} (x : α) (l : List α) : atI (x :: l) (0 : Int) = some x := atI_nat (j := 0) rfl
theorem at_1 {α : Type} (x y : α) (l : List α) : atI (x :: y :: l) (1 : Int) = some y := atI_nat (j := 1) rfl
theorem at_2 {α : Type} (x y z : α) (l : List α) : atI (x :: y :: z :: l) (2 : Int) = some z := atI_nat (j := 2) rfl
theorem at_3 {α : Type} (x y z u : α) (l : List α) : atI (x :: y :: z :: u :: l) (3 : Int) = some u := atI_nat (j := 3) rfl
theorem at_4 {α : Type} (x y z u v : α) (l : List α) : atI (x :: y :: z :: u :: v :: l) (4 : Int) = some v := atI_nat (j := 4) rfl
theorem at_5 {α : Type} (x y z u v w : α) (l : List α) : atI (x :: y :: z :: u :: v :: w :: l) (5 : Int) = some w := atI_nat (j := 5) rfl
theorem all_lst (p : List Bool → Bool) (l : List Bool) (s : Sto) : hAll p [.lst (l.map T.bl)] s = .ok (.bl (p l)) s := by
  unfold hAll asL
  simp only [bools_map]
theorem all_lstf {α : Type} (p : List Bool → Bool) (f : α → Bool) (l : List α) (s : Sto) : hAll p [.lst (l.map fun a => T.bl (f a))] s = .ok (.bl (p (l.map f))) s := by
  unfold hAll asL
  simp only [bools_mapf]
/-! comprehensions -/
theorem vLc_go {α : Type} {vs : List Nat} {fi : Fa} {g : Tg} {c : Fb} {e : Fx} {ρ : Lo} {st s : Sto} {l : List α} {enc : α → T} {p : α → Bool} {h : α → T} (hi : fi ρ st = .ok (l.map enc) s) (hl : l.length ≤ lim) (hh : ∀ a ∈ l, ∃ ρ', g (enc a) (wipeL ρ vs) = some ρ' ∧ c ρ' s = .ok (p a) s ∧ (p a = true → e ρ' s = .ok (h a) s)) :
    vLc vs fi g c e ρ st = .ok (.lst ((l.filter p).map h)) s := by
  unfold vLc
  rw [hi, z_ok, if_pos (by rw [List.length_map]; exact hl), cLoop_map l hh, z_ok]
theorem vLc_goA {α : Type} {vs : List Nat} {fi : Fa} {g : Tg} {e : Fx} {ρ : Lo} {st s : Sto} {l : List α} {enc : α → T} {h : α → T} (hi : fi ρ st = .ok (l.map enc) s) (hl : l.length ≤ lim) (hh : ∀ a ∈ l, ∃ ρ', g (enc a) (wipeL ρ vs) = some ρ' ∧ e ρ' s = .ok (h a) s) :
    vLc vs fi g bYes e ρ st = .ok (.lst (l.map h)) s := by
  unfold vLc
  rw [hi, z_ok, if_pos (by rw [List.length_map]; exact hl), cLoop_all l hh, z_ok]
theorem set_same {α : Type} {l : List α} {i : Nat} {x : α} (h : l[i]? = some x) : l.set i x = l := by
  apply List.ext_getElem?
  intro j
  by_cases e : i = j
  · subst e
    rw [List.getElem?_set_self (List.getElem?_eq_some_iff.mp h).1, h]
  · rw [List.getElem?_set_ne e]
theorem back_lock (t : T) (st : Sto) : backT t st (lockT t st) = st := by
  unfold backT lockT
  cases t with
  | cell i =>
    dsimp only
    cases q : st[i]? with
    | none => rfl
    | some p =>
      dsimp only
      rw [List.set_set]
      exact set_same q
  | _ => rfl
theorem vLcD_go {α : Type} {vs : List Nat} {pt : Pth} {g : Tg} {c : Fb} {e : Fx} {ρ : Lo} {st : Sto} {t : T} {l : List α} {enc : α → T} {p : α → Bool} {h : α → T} (hp : pt ρ st = some t) (hk : dictKeys st t = some (l.map enc)) (hf : freeT t st = true) (hl : l.length ≤ lim) (hh : ∀ a ∈ l, ∃ ρ', g (enc a) (wipeL ρ vs) = some ρ' ∧ c ρ' (lockT t st) = .ok (p a) (lockT t st) ∧ (p a = true → e ρ' (lockT t st) = .ok (h a) (lockT t st))) :
    vLcD vs pt g c e ρ st = .ok (.lst ((l.filter p).map h)) st := by
  unfold vLcD
  rw [hp]
  dsimp only
  rw [hk]
  dsimp only
  rw [if_pos ⟨hf, by rw [List.length_map]; exact hl⟩, cLoop_map l hh, z_ok, back_lock]
/-! loops -/
theorem loop_step {g : Tg} {b : Fs} {x : T} {xs : List T} {ρ ρ' ρ2 : Lo} {s s' : Sto} (hg : g x ρ = some ρ') (hb : b ρ' s = .ok (.nx ρ2) s') : loop g b (x :: xs) ρ s = loop g b xs ρ2 s' := by
  conv => lhs; unfold loop
  rw [hg]
  simp only [hb, z_ok]
theorem loop_ret {g : Tg} {b : Fs} {x : T} {xs : List T} {ρ ρ' : Lo} {s s' : Sto} {t : T} (hg : g x ρ = some ρ') (hb : b ρ' s = .ok (.rt t) s') : loop g b (x :: xs) ρ s = .ok (.rt t) s' := by
  conv => lhs; unfold loop
  rw [hg]
  simp only [hb, z_ok]
theorem loop_nil {g : Tg} {b : Fs} {ρ : Lo} {s : Sto} : loop g b [] ρ s = .ok (.nx ρ) s := rfl
/-! dict comprehensions -/
theorem dLoop_go {α : Type} {g : Tg} {c : Fb} {fk fv : Fx} {ρ : Lo} {s : Sto} {enc kt val : α → T} {kf : α → Key} {p : α → Bool} (hk : ∀ a, key (kt a) = some (kf a)) : ∀ (l d : List α), ((d ++ l.filter p).map kf).Nodup → (d ++ l).length ≤ 1000 →
    (∀ a ∈ l, ∃ ρ', g (enc a) ρ = some ρ' ∧ c ρ' s = .ok (p a) s ∧ (p a = true → fk ρ' s = .ok (kt a) s ∧ fv ρ' s = .ok (val a) s)) → dLoop g c fk fv ρ (l.map enc) (d.map kf) (d.map val) s = .ok ((d ++ l.filter p).map kf, (d ++ l.filter p).map val) s
  | [], d, _, _, _ => by rw [List.filter_nil, List.append_nil]; rfl
  | a :: l, d, hn, hl, hh => by
    obtain ⟨ρ', h1, h2, h3⟩ := hh a (by simp)
    rw [List.map_cons]
    unfold dLoop
    rw [h1]
    simp only [h2, noX_okE, z_ok]
    cases hp : p a with
    | true =>
      obtain ⟨h4, h5⟩ := h3 hp
      have e : d ++ (a :: l).filter p = (d ++ [a]) ++ l.filter p := by rw [List.filter_cons, if_pos hp]; simp
      rw [e] at hn
      have ih := dLoop_go (kt := kt) (val := val) hk l (d ++ [a]) hn (by simp at hl ⊢; omega) fun b hb => hh b (List.mem_cons_of_mem _ hb)
      have nk : kf a ∉ d.map kf := fun z => by
        rw [List.map_append, List.map_append, List.nodup_append, List.nodup_append] at hn
        exact hn.1.2.2 _ z (kf a) (by simp) rfl
      have hl2 : (d.map kf).length < lim := by
        rw [List.length_map]
        rw [List.length_append] at hl
        exact Nat.lt_of_le_of_lt (show d.length ≤ 1000 by omega) (by decide)
      simp only [if_true, h4, h5, noX_okE, z_ok, hk, if_pos hl2, kput, if_neg nk]
      rw [e, ← ih, List.map_append, List.map_append]
      rfl
    | false =>
      have e : (a :: l).filter p = l.filter p := by rw [List.filter_cons, if_neg (by rw [hp]; exact Bool.false_ne_true)]
      rw [e] at hn ⊢
      have ih := dLoop_go (kt := kt) (val := val) hk l d hn (by simp at hl ⊢; omega) fun b hb => hh b (List.mem_cons_of_mem _ hb)
      simp only [Bool.false_eq_true, if_false, ih]
theorem eLoop_go {α : Type} {g : Tg} {c : Fb} {fk fv : Fx} {ρ : Lo} {s : Sto} {enc kt val : α → T} {kf : α → List Key} {p : α → Bool} (hk : ∀ a, keyT (kt a) = some (kf a)) : ∀ (l d : List α), ((d ++ l.filter p).map kf).Nodup → (d ++ l).length ≤ 1000 →
    (∀ a ∈ l, ∃ ρ', g (enc a) ρ = some ρ' ∧ c ρ' s = .ok (p a) s ∧ (p a = true → fk ρ' s = .ok (kt a) s ∧ fv ρ' s = .ok (val a) s)) → eLoop g c fk fv ρ (l.map enc) (d.map kf) (d.map val) s = .ok ((d ++ l.filter p).map kf, (d ++ l.filter p).map val) s
  | [], d, _, _, _ => by rw [List.filter_nil, List.append_nil]; rfl
  | a :: l, d, hn, hl, hh => by
    obtain ⟨ρ', h1, h2, h3⟩ := hh a (by simp)
    rw [List.map_cons]
    unfold eLoop
    rw [h1]
    simp only [h2, noX_okE, z_ok]
    cases hp : p a with
    | true =>
      obtain ⟨h4, h5⟩ := h3 hp
      have e : d ++ (a :: l).filter p = (d ++ [a]) ++ l.filter p := by rw [List.filter_cons, if_pos hp]; simp
      rw [e] at hn
      have ih := eLoop_go (kt := kt) (val := val) hk l (d ++ [a]) hn (by simp at hl ⊢; omega) fun b hb => hh b (List.mem_cons_of_mem _ hb)
      have nk : kf a ∉ d.map kf := fun z => by
        rw [List.map_append, List.map_append, List.nodup_append, List.nodup_append] at hn
        exact hn.1.2.2 _ z (kf a) (by simp) rfl
      have hl2 : (d.map kf).length < lim := by
        rw [List.length_map]
        rw [List.length_append] at hl
        exact Nat.lt_of_le_of_lt (show d.length ≤ 1000 by omega) (by decide)
      simp only [if_true, h4, h5, noX_okE, z_ok, hk, if_pos hl2, kput, if_neg nk]
      rw [e, ← ih, List.map_append, List.map_append]
      rfl
    | false =>
      have e : (a :: l).filter p = l.filter p := by rw [List.filter_cons, if_neg (by rw [hp]; exact Bool.false_ne_true)]
      rw [e] at hn ⊢
      have ih := eLoop_go (kt := kt) (val := val) hk l d hn (by simp at hl ⊢; omega) fun b hb => hh b (List.mem_cons_of_mem _ hb)
      simp only [Bool.false_eq_true, if_false, ih]
theorem vDcD_go {α : Type} {vs : List Nat} {pt : Pth} {g : Tg} {c : Fb} {fk fv : Fx} {ρ : Lo} {st : Sto} {t : T} {l : List α} {enc kt val : α → T} {kf : α → Key} {p : α → Bool} (hk : ∀ a, key (kt a) = some (kf a)) (hp : pt ρ st = some t) (hd : dictKeys st t = some (l.map enc)) (hf : freeT t st = true) (hn : ((l.filter p).map kf).Nodup) (hl : l.length ≤ 1000)
    (hh : ∀ a ∈ l, ∃ ρ', g (enc a) (wipeL ρ vs) = some ρ' ∧ c ρ' (lockT t st) = .ok (p a) (lockT t st) ∧ (p a = true → fk ρ' (lockT t st) = .ok (kt a) (lockT t st) ∧ fv ρ' (lockT t st) = .ok (val a) (lockT t st))) :
    vDcD vs pt g c fk fv ρ st = .ok (.dK ((l.filter p).map kf) ((l.filter p).map val)) st := by
  unfold vDcD
  rw [hp]
  dsimp only
  rw [hd]
  dsimp only
  have := dLoop_go (kt := kt) (val := val) hk l [] hn hl hh
  rw [List.map_nil, List.map_nil] at this
  rw [if_pos hf, this, z_ok, back_lock]
  rfl
theorem vDc_go {α : Type} {vs : List Nat} {fi : Fa} {g : Tg} {c : Fb} {fk fv : Fx} {ρ : Lo} {st s : Sto} {l : List α} {enc kt val : α → T} {kf : α → Key} {p : α → Bool} (hk : ∀ a, key (kt a) = some (kf a)) (hi : fi ρ st = .ok (l.map enc) s) (hn : ((l.filter p).map kf).Nodup) (hl : l.length ≤ 1000)
    (hh : ∀ a ∈ l, ∃ ρ', g (enc a) (wipeL ρ vs) = some ρ' ∧ c ρ' s = .ok (p a) s ∧ (p a = true → fk ρ' s = .ok (kt a) s ∧ fv ρ' s = .ok (val a) s)) :
    vDc vs fi g c fk fv ρ st = .ok (.dK ((l.filter p).map kf) ((l.filter p).map val)) s := by
  unfold vDc
  have := dLoop_go (kt := kt) (val := val) hk l [] hn hl hh
  rw [List.map_nil, List.map_nil] at this
  rw [hi, z_ok, this, z_ok]
  rfl
theorem vEcD_go {α : Type} {vs : List Nat} {pt : Pth} {g : Tg} {c : Fb} {fk fv : Fx} {ρ : Lo} {st : Sto} {t : T} {l : List α} {enc kt val : α → T} {kf : α → List Key} {p : α → Bool} (hk : ∀ a, keyT (kt a) = some (kf a)) (hp : pt ρ st = some t) (hd : dictKeys st t = some (l.map enc)) (hf : freeT t st = true) (hn : ((l.filter p).map kf).Nodup) (hl : l.length ≤ 1000)
    (hh : ∀ a ∈ l, ∃ ρ', g (enc a) (wipeL ρ vs) = some ρ' ∧ c ρ' (lockT t st) = .ok (p a) (lockT t st) ∧ (p a = true → fk ρ' (lockT t st) = .ok (kt a) (lockT t st) ∧ fv ρ' (lockT t st) = .ok (val a) (lockT t st))) :
    vEcD vs pt g c fk fv ρ st = .ok (.dT ((l.filter p).map kf) ((l.filter p).map val)) st := by
  unfold vEcD
  rw [hp]
  dsimp only
  rw [hd]
  dsimp only
  have := eLoop_go (kt := kt) (val := val) hk l [] hn hl hh
  rw [List.map_nil, List.map_nil] at this
  rw [if_pos hf, this, z_ok, back_lock]
  rfl
theorem vEc_go {α : Type} {vs : List Nat} {fi : Fa} {g : Tg} {c : Fb} {fk fv : Fx} {ρ : Lo} {st s : Sto} {l : List α} {enc kt val : α → T} {kf : α → List Key} {p : α → Bool} (hk : ∀ a, keyT (kt a) = some (kf a)) (hi : fi ρ st = .ok (l.map enc) s) (hn : ((l.filter p).map kf).Nodup) (hl : l.length ≤ 1000)
    (hh : ∀ a ∈ l, ∃ ρ', g (enc a) (wipeL ρ vs) = some ρ' ∧ c ρ' s = .ok (p a) s ∧ (p a = true → fk ρ' s = .ok (kt a) s ∧ fv ρ' s = .ok (val a) s)) :
    vEc vs fi g c fk fv ρ st = .ok (.dT ((l.filter p).map kf) ((l.filter p).map val)) s := by
  unfold vEc
  have := eLoop_go (kt := kt) (val := val) hk l [] hn hl hh
  rw [List.map_nil, List.map_nil] at this
  rw [hi, z_ok, this, z_ok]
  rfl
end Sh

set_option Elab.async false
set_option linter.all false
set_option maxRecDepth 100000
set_option maxHeartbeats 4000000
namespace Sh
open PySem PySem.Spec PyProof.Rows L2
/-- whether a is in l -/
def el {α : Type} [DecidableEq α] (a : α) (l : List α) : Bool := decide (a ∈ l)
theorem el_iff {α : Type} [DecidableEq α] {a : α} {l : List α} : el a l = true ↔ a ∈ l := decide_eq_true_iff
theorem el_t {α : Type} [DecidableEq α] {a : α} {l : List α} (h : a ∈ l) : el a l = true := decide_eq_true h
theorem el_f {α : Type} [DecidableEq α] {a : α} {l : List α} (h : a ∉ l) : el a l = false := decide_eq_false h
/-! ### values that stand for data -/
class Enc (α : Type) [DecidableEq α] where
  t : α → T
  d : α → PyData
  dep : Nat
  py : ∀ a, toPy (t a) = some (d a)
  lay : ∀ a, (d a).canLay0 = true
  dp : ∀ a, (d a).depth ≤ dep
  eq : ∀ a b, PyData.eqv (d a) (d b) = decide (a = b)
  pu : ∀ a, pur (t a) = true
/-- a tuple of such -/
structure Tp (α : Type) where
  l : List α
  deriving DecidableEq
section
variable {α : Type} [DecidableEq α] [Enc α] {β : Type} [DecidableEq β] [Enc β]
theorem toPys_enc : ∀ l : List α, toPys (l.map Enc.t) = some (l.map Enc.d)
  | [] => rfl
  | a :: l => by rw [List.map_cons]; unfold toPys; rw [toPys_enc l, Enc.py]; rfl
theorem lays_enc : ∀ l : List α, PyData.canLayAll0 (l.map Enc.d) = true
  | [] => by rw [List.map_nil]; unfold PyData.canLayAll0; rfl
  | a :: l => by rw [List.map_cons]; unfold PyData.canLayAll0; rw [lays_enc l, Enc.lay]; rfl
theorem deps_enc : ∀ l : List α, PyData.depthAll (l.map Enc.d) ≤ Enc.dep α
  | [] => by rw [List.map_nil]; unfold PyData.depthAll; exact Nat.zero_le _
  | a :: l => by rw [List.map_cons]; unfold PyData.depthAll; exact Nat.max_le.mpr ⟨Enc.dp a, deps_enc l⟩
theorem eqvAll_enc : ∀ l k : List α, PyData.eqvAll (l.map Enc.d) (k.map Enc.d) = decide (l = k)
  | [], [] => by rw [List.map_nil]; unfold PyData.eqvAll; rfl
  | [], _ :: _ => by rw [List.map_nil, List.map_cons]; unfold PyData.eqvAll; simp
  | _ :: _, [] => by rw [List.map_nil, List.map_cons]; unfold PyData.eqvAll; simp
  | a :: l, b :: k => by
    rw [List.map_cons, List.map_cons]
    unfold PyData.eqvAll
    rw [eqvAll_enc l k, Enc.eq]
    by_cases h1 : a = b <;> by_cases h2 : l = k <;> simp [h1, h2]
theorem any_enc (a : α) : ∀ l : List α, ((l.map Enc.d).any fun z => PyData.eqv z (Enc.d a)) = el a l
  | [] => by simp [el]
  | b :: l => by
    rw [List.map_cons, List.any_cons, any_enc a l, Enc.eq]
    unfold el
    by_cases h1 : a = b
    · subst h1; simp
    · have h2 : ¬ b = a := fun z => h1 z.symm
      simp [h1, h2]
theorem purs_enc : ∀ l : List α, purs (l.map Enc.t) = true := purs_map Enc.pu
instance : Enc Int where
  t := .int
  d := .int
  dep := 0
  py := fun _ => rfl
  lay := fun _ => by unfold PyData.canLay0; rfl
  dp := fun _ => by unfold PyData.depth; exact Nat.le_refl _
  eq := fun a b => by unfold PyData.eqv; by_cases h : a = b <;> simp [h]
  pu := fun _ => rfl
instance : Enc Bool where
  t := .bl
  d := .bool
  dep := 0
  py := fun _ => rfl
  lay := fun _ => by unfold PyData.canLay0; rfl
  dp := fun _ => by unfold PyData.depth; exact Nat.le_refl _
  eq := fun a b => by unfold PyData.eqv; cases a <;> cases b <;> rfl
  pu := fun _ => rfl
/-- None or an int -/
instance : Enc (Option Int) where
  t := fun o => match o with | some i => .int i | none => .non
  d := fun o => match o with | some i => .int i | none => .none
  dep := 0
  py := fun o => by cases o <;> rfl
  lay := fun o => by cases o <;> (unfold PyData.canLay0; rfl)
  dp := fun o => by cases o <;> (unfold PyData.depth; exact Nat.le_refl _)
  eq := fun a b => by
    cases a <;> cases b <;> unfold PyData.eqv <;> simp
    rename_i i j
    by_cases h : i = j <;> simp [h]
  pu := fun o => by cases o <;> rfl
instance : Enc (List α) where
  t := fun l => .lst (l.map Enc.t)
  d := fun l => .list (l.map Enc.d)
  dep := Enc.dep α + 1
  py := fun l => by unfold toPy; rw [toPys_enc l]
  lay := fun l => by unfold PyData.canLay0; exact lays_enc l
  dp := fun l => by unfold PyData.depth; exact Nat.succ_le_succ (deps_enc l)
  eq := fun l k => by unfold PyData.eqv; exact eqvAll_enc l k
  pu := fun l => purs_enc l
instance : Enc (Tp α) where
  t := fun l => .tup (l.l.map Enc.t)
  d := fun l => .tuple (l.l.map Enc.d)
  dep := Enc.dep α + 1
  py := fun l => by unfold toPy; rw [toPys_enc l.l]
  lay := fun l => by unfold PyData.canLay0; exact lays_enc l.l
  dp := fun l => by unfold PyData.depth; exact Nat.succ_le_succ (deps_enc l.l)
  eq := fun l k => by
    unfold PyData.eqv
    rw [eqvAll_enc l.l k.l]
    cases l; cases k; simp
  pu := fun l => purs_enc l.l
instance : Enc (α × β) where
  t := fun p => .tup [Enc.t p.1, Enc.t p.2]
  d := fun p => .tuple [Enc.d p.1, Enc.d p.2]
  dep := max (Enc.dep α) (Enc.dep β) + 1
  py := fun p => by simp only [toPy, toPys, Enc.py]
  lay := fun p => by simp only [PyData.canLay0, PyData.canLayAll0, Enc.lay, Bool.and_self]
  dp := fun p => by
    simp only [PyData.depth, PyData.depthAll]
    have h1 := Enc.dp p.1
    have h2 := Enc.dp p.2
    omega
  eq := fun p q => by
    simp only [PyData.eqv, PyData.eqvAll, Enc.eq]
    obtain ⟨a, b⟩ := p
    obtain ⟨c, d⟩ := q
    by_cases h1 : a = c <;> by_cases h2 : b = d <;> simp [h1, h2]
  pu := fun p => by simp [Enc.pu]
theorem shaped_enc (a : α) (h : Enc.dep α ≤ 60 := by decide) : SeqAt.shaped (Enc.d a) = true := by
  unfold SeqAt.shaped
  rw [Enc.lay, Bool.true_and]
  exact decide_eq_true (Nat.le_trans (Enc.dp a) (Nat.le_trans h (by decide)))
theorem shapeds_enc (l : List α) (h : Enc.dep α ≤ 60 := by decide) : SeqAt.shaped (.list (l.map Enc.d)) = true := by
  unfold SeqAt.shaped
  rw [show PyData.canLay0 (.list (l.map Enc.d)) = true from Enc.lay (α := List α) l, Bool.true_and]
  have := Enc.dp (α := List α) l
  exact decide_eq_true (Nat.le_trans this (show Enc.dep α + 1 ≤ 64 by omega))
/-! == and in by what the trees stand for -/
theorem toPyF_enc (a : α) (s : Sto) : toPyF s (Enc.t a) = some (Enc.d a) := by
  have h := Enc.py a
  have p := Enc.pu a
  cases q : Enc.t a with
  | cell i => rw [q] at p; cases p
  | _ => rw [q] at h; exact h
theorem eqT_enc (a b : α) (s : Sto) (h : Enc.dep α ≤ 60) : hEqF true (Enc.t a) (Enc.t b) s = .ok (.bl (decide (a = b))) s := by
  unfold hEqF
  rw [toPyF_enc, toPyF_enc]
  simp only [shaped_enc a h, shaped_enc b h, Bool.and_self, if_true, Enc.eq]
theorem neT_enc (a b : α) (s : Sto) (h : Enc.dep α ≤ 60) : hEqF false (Enc.t a) (Enc.t b) s = .ok (.bl (!decide (a = b))) s := by
  unfold hEqF
  rw [toPyF_enc, toPyF_enc]
  simp only [shaped_enc a h, shaped_enc b h, Bool.and_self, if_true, Enc.eq]
  rfl
theorem in_tup (a : α) (l : List α) (s : Sto) (h : Enc.dep α ≤ 60) (p : Bool) : hIn p (Enc.t a) (.tup (l.map Enc.t)) s = .ok (.bl (if p then el a l else !el a l)) s := by
  unfold hIn
  simp only [dget, asDK, asDT, asL, asT, Enc.py, toPys_enc, shaped_enc a h, shapeds_enc l h, Bool.and_self, if_true, any_enc]
theorem in_lst (a : α) (l : List α) (s : Sto) (h : Enc.dep α ≤ 60) (p : Bool) : hIn p (Enc.t a) (.lst (l.map Enc.t)) s = .ok (.bl (if p then el a l else !el a l)) s := by
  unfold hIn
  simp only [dget, asDK, asDT, asL, asT, Enc.py, toPys_enc, shaped_enc a h, shapeds_enc l h, Bool.and_self, if_true, any_enc]
end
/-! dicts -/
theorem kget_map {κ α β : Type} [DecidableEq κ] (f : α → κ) (g : β → T) : ∀ (l : List (α × β)) (q : κ), kget (l.map fun p => f p.1) (l.map fun p => g p.2) q = (l.find? fun p => decide (f p.1 = q)).map fun p => g p.2
  | [], q => rfl
  | p :: l, q => by
    rw [List.map_cons, List.map_cons, List.find?_cons]
    unfold kget
    by_cases h : f p.1 = q
    · simp [h]
    · simp [h, kget_map f g l q]
end Sh
namespace Sh
open PySem PySem.Spec PyProof.Rows L2
/-! ### names, fields, boards -/
def isNm (x : Str) : Bool := decide (1 ≤ x.length) && decide (x.length ≤ 8) && x.cps.toList.all fun c => decide (97 ≤ c) && decide (c ≤ 122)
structure NS where
  ν : Type
  dec : DecidableEq ν
  nm : ν → Str
  inj : ∀ a b, nm a = nm b → a = b
  ok : ∀ a, isNm (nm a) = true
instance (N : NS) : DecidableEq N.ν := N.dec
theorem isNm_ok {x : Str} (h : isNm x = true) : PyData.strOk x = true := by
  unfold isNm at h
  rw [Bool.and_eq_true] at h
  unfold PyData.strOk
  rw [← Array.all_toList, List.all_eq_true]
  intro c hc
  have := List.all_eq_true.mp h.2 c hc
  rw [Bool.and_eq_true] at this
  have h2 := of_decide_eq_true this.2
  exact decide_eq_true (by omega)
instance (N : NS) : Enc N.ν where
  t := fun a => .str (N.nm a)
  d := fun a => .str (N.nm a)
  dep := 0
  py := fun _ => rfl
  lay := fun a => by unfold PyData.canLay0; exact isNm_ok (N.ok a)
  dp := fun _ => by unfold PyData.depth; exact Nat.le_refl _
  eq := fun a b => by
    unfold PyData.eqv
    by_cases h : a = b
    · subst h; simp
    · have : ¬ N.nm a = N.nm b := fun z => h (N.inj _ _ z)
      simp [h, this]
  pu := fun _ => rfl
structure Fd (N : NS) where
  ow : Int
  tg : List N.ν
  go : Bool
  deriving DecidableEq
abbrev Mv (N : NS) := N.ν × N.ν
structure Bd (N : NS) where
  fs : List (N.ν × Fd N)
  st : N.ν
  ps : List (Mv N × Int)
  deriving DecidableEq
section
variable {N : NS}
/-- the tree of a name, as a key -/
def kN (a : N.ν) : Key := .inr (N.nm a)
def kM (m : Mv N) : List Key := [kN m.1, kN m.2]
theorem kN_inj {a b : N.ν} : kN a = kN b ↔ a = b := ⟨fun h => by unfold kN at h; injection h with h; exact N.inj _ _ h, fun h => by rw [h]⟩
theorem kM_inj {a b : Mv N} : kM a = kM b ↔ a = b := ⟨fun h => by
  unfold kM at h
  injection h with h1 h2
  injection h2 with h2
  exact Prod.ext (kN_inj.mp h1) (kN_inj.mp h2), fun h => by rw [h]⟩
def eN (a : N.ν) : T := .str (N.nm a)
def eM (m : Mv N) : T := .tup [eN m.1, eN m.2]
def eF (f : Fd N) : T := .ins 0 [.int f.ow, .tup (f.tg.map eN), .bl f.go]
def eB (b : Bd N) : T := .ins 1 [.dK (b.fs.map fun p => kN p.1) (b.fs.map fun p => eF p.2), .str (N.nm b.st), .dT (b.ps.map fun p => kM p.1) (b.ps.map fun p => .int p.2)]
/-- a set of moves -/
def eS (l : List (Mv N)) : T := .tup (l.map eM)
theorem eN_enc : (eN : N.ν → T) = Enc.t := rfl
theorem eM_enc : (eM : Mv N → T) = Enc.t := rfl
theorem eS_enc (l : List (Mv N)) : eS l = Enc.t (Tp.mk l) := rfl
@[simp] theorem pur_eN (a : N.ν) : pur (eN a) = true := rfl
@[simp] theorem pur_eM (a : Mv N) : pur (eM a) = true := rfl
@[simp] theorem pur_eF (f : Fd N) : pur (eF f) = true := by
  unfold eF
  simp [purs_map (fun a => pur_eN (N := N) a)]
@[simp] theorem pur_eS (l : List (Mv N)) : pur (eS l) = true := purs_map (fun a => pur_eM a) l
@[simp] theorem pur_eB (b : Bd N) : pur (eB b) = true := by
  unfold eB
  simp [purs_map (f := fun p : N.ν × Fd N => eF p.2) (fun a => pur_eF a.2), purs_map (f := fun p : Mv N × Int => T.int p.2) (fun _ => rfl)]
def Bd.names (b : Bd N) : List N.ν := b.fs.map (·.1)
def Bd.moves (b : Bd N) : List (Mv N) := b.ps.map (·.1)
def Bd.fld (b : Bd N) (a : N.ν) : Fd N := ((b.fs.find? fun p => decide (p.1 = a)).map (·.2)).getD ⟨0, [], false⟩
def Fd.Ok (f : Fd N) : Prop := (f.ow = 1 ∨ f.ow = 2) ∧ f.tg.Nodup
structure Bd.Ok (b : Bd N) : Prop where
  nod : b.names.Nodup
  few : b.fs.length ≤ 8
  some : b.fs ≠ []
  fok : ∀ p ∈ b.fs, p.2.Ok
  tgs : ∀ p ∈ b.fs, ∀ x ∈ p.2.tg, x ∈ b.names
  st : b.st ∈ b.names
  mnod : b.moves.Nodup
  mfew : b.ps.length ≤ 6
  mok : ∀ p ∈ b.ps, p.1.1 ∈ b.names ∧ p.1.2 ∈ (b.fld p.1.1).tg
  cost : ∀ p ∈ b.ps, 1 ≤ p.2 ∧ p.2 ≤ 9
end

/-! dicts as they are read -/
structure DV (s : Sto) (t : T) (ks : List Key) (xs : List T) : Prop where
  dk : asDK s t = some (ks, xs)
  kd : kd s t = some .dict
  al : asL s t = none
  tu : asT t = none
  is : (∃ ks xs, t = .dK ks xs) ∨ ∃ i, t = .cell i
structure TV (s : Sto) (t : T) (ks : List (List Key)) (xs : List T) : Prop where
  dk : asDK s t = none
  dt : asDT s t = some (ks, xs)
  kd : kd s t = some .dict
  al : asL s t = none
  tu : asT t = none
  is : (∃ ks xs, t = .dT ks xs) ∨ ∃ i, t = .cell i
section
variable {s : Sto} {t : T}
theorem DV.dK {ks : List Key} {xs : List T} : DV s (.dK ks xs) ks xs := ⟨rfl, rfl, rfl, rfl, .inl ⟨_, _, rfl⟩⟩
theorem DV.cell {ks : List Key} {xs : List T} {i : Nat} {b : Bool} (h : s[i]? = some (b, .dK ks xs)) : DV s (.cell i) ks xs := ⟨by unfold asDK; simp only [h], by unfold Sh.kd; simp only [h]; rfl, by unfold asL; simp only [h], rfl, .inr ⟨_, rfl⟩⟩
theorem TV.dT {ks : List (List Key)} {xs : List T} : TV s (.dT ks xs) ks xs := ⟨rfl, rfl, rfl, rfl, rfl, .inl ⟨_, _, rfl⟩⟩
theorem TV.cell {ks : List (List Key)} {xs : List T} {i : Nat} {b : Bool} (h : s[i]? = some (b, .dT ks xs)) : TV s (.cell i) ks xs := ⟨by unfold asDK; simp only [h], by unfold asDT; simp only [h], by unfold Sh.kd; simp only [h]; rfl, by unfold asL; simp only [h], rfl, .inr ⟨_, rfl⟩⟩
theorem DV.lock {ks : List Key} {xs : List T} (h : DV s t ks xs) : DV (lockT t s) t ks xs := by
  rcases h.is with ⟨_, _, rfl⟩ | ⟨i, rfl⟩
  · exact h
  · have q := h.dk
    unfold asDK at q
    dsimp only at q
    split at q
    · rename_i b ks' xs' hi
      cases q
      have : (lockT (.cell i) s)[i]? = some (true, .dK ks xs) := by
        unfold lockT
        simp only [hi]
        rw [List.getElem?_set_self (List.getElem?_eq_some_iff.mp hi).1]
      exact .cell this
    · cases q
theorem TV.lock {ks : List (List Key)} {xs : List T} (h : TV s t ks xs) : TV (lockT t s) t ks xs := by
  rcases h.is with ⟨_, _, rfl⟩ | ⟨i, rfl⟩
  · exact h
  · have q := h.dt
    unfold asDT at q
    dsimp only at q
    split at q
    · rename_i b ks' xs' hi
      cases q
      have : (lockT (.cell i) s)[i]? = some (true, .dT ks xs) := by
        unfold lockT
        simp only [hi]
        rw [List.getElem?_set_self (List.getElem?_eq_some_iff.mp hi).1]
      exact .cell this
    · cases q
theorem DV.len {ks : List Key} {xs : List T} (h : DV s t ks xs) : hLen [t] s = .ok (.int ks.length) s := by
  unfold hLen
  simp only [h.al, h.tu]
  rcases h.is with ⟨_, _, rfl⟩ | ⟨i, rfl⟩ <;> simp only [h.dk]
theorem TV.len {ks : List (List Key)} {xs : List T} (h : TV s t ks xs) : hLen [t] s = .ok (.int ks.length) s := by
  unfold hLen
  simp only [h.al, h.tu]
  rcases h.is with ⟨_, _, rfl⟩ | ⟨i, rfl⟩ <;> simp only [h.dk, h.dt]
theorem DV.get {ks : List Key} {xs : List T} (h : DV s t ks xs) {k : T} {q : Key} (hk : key k = some q) : dget s t k = some (kget ks xs q) := by
  unfold dget
  simp only [h.dk, hk]
theorem TV.get {ks : List (List Key)} {xs : List T} (h : TV s t ks xs) {k : T} {q : List Key} (hk : keyT k = some q) : dget s t k = some (kget ks xs q) := by
  unfold dget
  simp only [h.dk, h.dt, hk]
theorem DV.in_ {ks : List Key} {xs : List T} (h : DV s t ks xs) {k : T} {q : Key} (hk : key k = some q) (p : Bool) : hIn p k t s = .ok (.bl (if p then (kget ks xs q).isSome else !(kget ks xs q).isSome)) s := by
  unfold hIn
  simp only [h.get hk]
theorem TV.in_ {ks : List (List Key)} {xs : List T} (h : TV s t ks xs) {k : T} {q : List Key} (hk : keyT k = some q) (p : Bool) : hIn p k t s = .ok (.bl (if p then (kget ks xs q).isSome else !(kget ks xs q).isSome)) s := by
  unfold hIn
  simp only [h.get hk]
theorem DV.ix {ks : List Key} {xs : List T} (h : DV s t ks xs) {k : T} {q : Key} (hk : key k = some q) {x : T} (hx : kget ks xs q = some x) : hIx t k s = .ok x s := by
  unfold hIx
  simp only [h.get hk, hx]
theorem TV.ix {ks : List (List Key)} {xs : List T} (h : TV s t ks xs) {k : T} {q : List Key} (hk : keyT k = some q) {x : T} (hx : kget ks xs q = some x) : hIx t k s = .ok x s := by
  unfold hIx
  simp only [h.get hk, hx]
theorem DV.keys {ks : List Key} {xs : List T} (h : DV s t ks xs) : dictKeys s t = some (ks.map kT) := by
  unfold dictKeys
  simp only [h.dk]
theorem TV.keys {ks : List (List Key)} {xs : List T} (h : TV s t ks xs) : dictKeys s t = some (ks.map fun k => .tup (k.map kT)) := by
  unfold dictKeys
  simp only [h.dk, h.dt]
end
section
variable {N : NS}
theorem key_N (a : N.ν) : key (eN a) = some (kN a) := rfl
theorem keyT_M (m : Mv N) : keyT (eM m) = some (kM m) := rfl
theorem kget_N {β : Type} (g : β → T) : ∀ (l : List (N.ν × β)) (a : N.ν), kget (l.map fun p => kN p.1) (l.map fun p => g p.2) (kN a) = (l.find? fun p => decide (p.1 = a)).map fun p => g p.2
  | [], _ => rfl
  | p :: l, a => by
    rw [List.map_cons, List.map_cons, List.find?_cons]
    unfold kget
    by_cases h : p.1 = a
    · simp [h]
    · have : ¬ kN p.1 = kN a := fun z => h (kN_inj.mp z)
      simp [h, this, kget_N g l a]
theorem kget_M {β : Type} (g : β → T) : ∀ (l : List (Mv N × β)) (a : Mv N), kget (l.map fun p => kM p.1) (l.map fun p => g p.2) (kM a) = (l.find? fun p => decide (p.1 = a)).map fun p => g p.2
  | [], _ => rfl
  | p :: l, a => by
    rw [List.map_cons, List.map_cons, List.find?_cons]
    unfold kget
    by_cases h : p.1 = a
    · simp [h]
    · have : ¬ kM p.1 = kM a := fun z => h (kM_inj.mp z)
      simp [h, this, kget_M g l a]
theorem keys_N {β : Type} (l : List (N.ν × β)) : (l.map fun p => kN p.1).map kT = l.map fun p => eN p.1 := by rw [List.map_map]; rfl
theorem keys_M {β : Type} (l : List (Mv N × β)) : (l.map fun p => kM p.1).map (fun k => T.tup (k.map kT)) = l.map fun p => eM p.1 := by rw [List.map_map]; rfl
theorem find_mem {α β : Type} [DecidableEq α] {l : List (α × β)} (hn : (l.map (·.1)).Nodup) {p : α × β} (h : p ∈ l) : (l.find? fun q => decide (q.1 = p.1)) = some p := by
  induction l with
  | nil => cases h
  | cons q l ih =>
    rw [List.map_cons, List.nodup_cons] at hn
    rw [List.find?_cons]
    rcases List.mem_cons.mp h with e | h
    · subst e; simp
    · have : ¬ q.1 = p.1 := fun z => hn.1 (z ▸ List.mem_map.mpr ⟨p, h, rfl⟩)
      simp [this, ih hn.2 h]
theorem find_some {α β : Type} [DecidableEq α] (l : List (α × β)) (a : α) : (l.find? fun q => decide (q.1 = a)).isSome = el a (l.map (·.1)) := by
  induction l with
  | nil => rfl
  | cons q l ih =>
    rw [List.find?_cons, List.map_cons]
    unfold el at ih ⊢
    by_cases h : q.1 = a
    · subst h; simp
    · have : ¬ a = q.1 := fun z => h z.symm
      simp [h, this, ih]
end
theorem lock_fix {t : T} {s : Sto} (h : (∃ ks xs, t = .dK ks xs) ∨ ∃ ks xs, t = .dT ks xs) : lockT t s = s := by
  rcases h with ⟨_, _, rfl⟩ | ⟨_, _, rfl⟩ <;> rfl
theorem DV.app {s ex : Sto} {t : T} {ks : List Key} {xs : List T} (h : DV s t ks xs) : DV (s ++ ex) t ks xs := by
  rcases h.is with ⟨_, _, rfl⟩ | ⟨i, rfl⟩
  · have q := h.dk
    cases q
    exact .dK
  · have q := h.dk
    unfold asDK at q
    dsimp only at q
    split at q
    · rename_i b ks' xs' hi
      cases q
      exact .cell (get_lo hi)
    · cases q
theorem free_app {s ex : Sto} {t : T} (h : freeT t s = true) : freeT t (s ++ ex) = true := by
  cases t with
  | cell i =>
    unfold freeT at h ⊢
    dsimp only at h ⊢
    cases q : s[i]? with
    | none => rw [q] at h; cases h
    | some p =>
      rw [q] at h
      rw [get_lo q]
      exact h
  | _ => rfl
theorem nodup_len {α : Type} [DecidableEq α] : ∀ {l k : List α}, l.Nodup → (∀ x ∈ l, x ∈ k) → l.length ≤ k.length
  | [], _, _, _ => Nat.zero_le _
  | a :: l, k, h, hs => by
    rw [List.nodup_cons] at h
    have ha := hs a (by simp)
    have := nodup_len (l := l) (k := k.erase a) h.2 fun x hx => by
      have hne : x ≠ a := fun z => h.1 (z ▸ hx)
      exact (List.mem_erase_of_ne hne).mpr (hs x (List.mem_cons_of_mem _ hx))
    rw [List.length_erase_of_mem ha] at this
    have : 0 < k.length := List.length_pos_of_mem ha
    rw [List.length_cons]
    omega
theorem nodup_mapI {α β : Type} {f : α → β} (hf : ∀ a b, f a = f b → a = b) : ∀ {l : List α}, l.Nodup → (l.map f).Nodup
  | [], _ => List.nodup_nil
  | a :: l, h => by
    rw [List.nodup_cons] at h
    rw [List.map_cons, List.nodup_cons]
    refine ⟨fun z => ?_, nodup_mapI hf h.2⟩
    obtain ⟨b, hb, e⟩ := List.mem_map.mp z
    exact h.1 (hf _ _ e ▸ hb)
theorem nodup_kN {N : NS} {β : Type} {l : List (N.ν × β)} (h : (l.map (·.1)).Nodup) : (l.map fun p => kN p.1).Nodup := by
  have := nodup_mapI (f := kN) (fun a b => kN_inj.mp) h
  rw [List.map_map] at this
  exact this
theorem nodup_kM {N : NS} {β : Type} {l : List (Mv N × β)} (h : (l.map (·.1)).Nodup) : (l.map fun p => kM p.1).Nodup := by
  have := nodup_mapI (f := kM) (fun a b => kM_inj.mp) h
  rw [List.map_map] at this
  exact this
/-! sets of moves, boards -/
structure SV {N : NS} (t : T) (F : List (Mv N)) : Prop where
  tu : asT t = some (F.map eM)
  dk : ∀ s, asDK s t = none
  dt : ∀ s, asDT s t = none
  al : ∀ s, asL s t = none
  kd : ∀ s, kd s t = some .tuple
  pu : pur t = true
section
variable {N : NS}
theorem SV.tup {F : List (Mv N)} : SV (eS F) F := ⟨rfl, fun _ => rfl, fun _ => rfl, fun _ => rfl, fun _ => rfl, pur_eS F⟩
theorem SV.nil : SV (.tup []) ([] : List (Mv N)) := ⟨rfl, fun _ => rfl, fun _ => rfl, fun _ => rfl, fun _ => rfl, rfl⟩
theorem SV.tupK : SV (.tupK []) ([] : List (Mv N)) := ⟨rfl, fun _ => rfl, fun _ => rfl, fun _ => rfl, fun _ => rfl, rfl⟩
theorem SV.in_ {t : T} {F : List (Mv N)} (h : SV t F) (m : Mv N) (s : Sto) (p : Bool) : hIn p (eM m) t s = .ok (.bl (if p then el m F else !el m F)) s := by
  have d1 : Enc.dep (Mv N) ≤ 60 := by exact (show max 0 0 + 1 ≤ 60 by decide)
  unfold hIn dget
  simp only [h.dk, h.dt, h.al, h.tu, eM_enc, Enc.py, toPys_enc, shaped_enc m d1, shapeds_enc F d1, Bool.and_self, if_true, any_enc]
/-! what the module winning reckons -/
def Bd.steps (b : Bd N) (F : List (Mv N)) (a : N.ν) : List N.ν := b.names.filter fun x => el x (b.fld a).tg && !el (a, x) F
def forced (f : Fd N) (l : List Bool) : Bool := f.go || if f.ow = 1 then l.any id else l.all id
abbrev Fnd (N : NS) := List (N.ν × Int)
def Fnd.has (f : Fnd N) (a : N.ν) : Bool := el a (f.map (·.1))
def Fnd.get (f : Fnd N) (a : N.ν) : Option Int := (f.find? fun p => decide (p.1 = a)).map (·.2)
def Bd.late (b : Bd N) (F : List (Mv N)) (f : Fnd N) : List N.ν := b.names.filter fun a => !f.has a && forced (b.fld a) ((b.steps F a).map f.has)
def Bd.fnd (b : Bd N) (F : List (Mv N)) : Nat → Fnd N
  | 0 => []
  | i + 1 => b.fnd F i ++ (b.late F (b.fnd F i)).map fun a => (a, (i : Int))
/-- the distances -/
def Bd.dist (b : Bd N) (F : List (Mv N)) (a : N.ν) : Option Int := (b.fnd F b.fs.length).get a
def eO (o : Option Int) : T := match o with | some i => .int i | none => .non
theorem eO_enc : eO = Enc.t (α := Option Int) := rfl
@[simp] theorem pur_eO (o : Option Int) : pur (eO o) = true := Enc.pu (α := Option Int) o
/-- a set of the board -/
def Bd.set (b : Bd N) (F : List (Mv N)) : Prop := (∀ m ∈ F, m ∈ b.moves) ∧ F = b.moves.filter fun m => el m F
theorem Bd.fld_mem {b : Bd N} (hn : b.names.Nodup) {p : N.ν × Fd N} (hp : p ∈ b.fs) : b.fld p.1 = p.2 := by
  unfold Bd.fld
  rw [find_mem hn hp]
  rfl
theorem rng_map (k : Nat) : ∀ i : Int, rngT i k = (List.range k).map fun j => T.int (i + (j : Nat)) := by
  induction k with
  | zero => intro i; rfl
  | succ k ih =>
    intro i
    unfold rngT
    rw [ih, List.range_succ_eq_map, List.map_cons, List.map_map]
    congr 1
    · simp
    · apply List.map_congr_left
      intro j _
      show T.int (i + 1 + (j : Nat)) = T.int (i + ((j + 1 : Nat) : Int))
      congr 1
      omega
theorem fnd_nodup {b : Bd N} (hn : b.names.Nodup) (F : List (Mv N)) : ∀ i, ((b.fnd F i).map (·.1)).Nodup
  | 0 => List.nodup_nil
  | i + 1 => by
    show ((b.fnd F i ++ (b.late F (b.fnd F i)).map fun a => (a, (i : Int))).map (·.1)).Nodup
    rw [List.map_append, List.map_map, List.nodup_append]
    have e : (b.late F (b.fnd F i)).map ((fun x : N.ν × Int => x.1) ∘ fun a => (a, (i : Int))) = b.late F (b.fnd F i) := by
      rw [show ((fun x : N.ν × Int => x.1) ∘ fun a => (a, (i : Int))) = id from rfl, List.map_id]
    rw [e]
    refine ⟨fnd_nodup hn F i, hn.filter _, fun x hx y hy => ?_⟩
    rintro rfl
    unfold Bd.late at hy
    have := (List.mem_filter.mp hy).2
    rw [Bool.and_eq_true] at this
    have h2 := this.1
    unfold Fnd.has at h2
    rw [el_t hx] at h2
    cases h2
end
end Sh

set_option Elab.async false
set_option linter.all false
set_option maxRecDepth 100000
set_option maxHeartbeats 4000000
namespace V
open PySem L2 Sh
section
variable {N : NS} (st : Sto)
theorem f_is_number (i : Int) : F_is_number [.int i] st = .ok (.bl true) st := by
  refine defF_rt0 rfl ?_ rfl
  unfold b_is_number
  simp only [sSeq, sAsg, sRet, sRetN, sIf, sNext, sBad, sExpr, vVar, vC, v1, v2, v3, vA, vM, aNil, aCons, bOf, bNot, bAnd, bOr, vAnd, vOr, vNot, vIf, bYes, gN, startL, z_ok, z_bad, noX_okE, List.map_cons, List.map_nil, List.length_cons, List.length_nil, List.cons_append, List.nil_append, List.getElem?_cons_zero, List.getElem?_cons_succ, List.set_cons_zero, List.set_cons_succ, List.replicate_succ, List.replicate_zero, Nat.reduceAdd, Nat.reduceSub, if_true, if_false, Bool.false_eq_true, Bool.true_eq_false, Bool.not_true, Bool.not_false, eq_self, true_and, and_true, and_self, Nat.reduceLT, Nat.reduceLeDiff, Bool.and_true, Bool.true_and, Bool.and_false, Bool.false_and, decide_true, decide_false, hIsi, kd, kitT]
theorem f_is_cost (i : Int) (h : 1 ≤ i ∧ i ≤ 9) : F_is_cost [.int i] st = .ok (.bl true) st := by
  refine defF_rt0 rfl ?_ rfl
  unfold b_is_cost
  simp only [sSeq, sAsg, sRet, sRetN, sIf, sNext, sBad, sExpr, vVar, vC, v1, v2, v3, vA, vM, aNil, aCons, bOf, bNot, bAnd, bOr, vAnd, vOr, vNot, vIf, bYes, gN, startL, z_ok, z_bad, noX_okE, List.map_cons, List.map_nil, List.length_cons, List.length_nil, List.cons_append, List.nil_append, List.getElem?_cons_zero, List.getElem?_cons_succ, List.set_cons_zero, List.set_cons_succ, List.replicate_succ, List.replicate_zero, Nat.reduceAdd, Nat.reduceSub, if_true, if_false, Bool.false_eq_true, Bool.true_eq_false, Bool.not_true, Bool.not_false, eq_self, true_and, and_true, and_self, Nat.reduceLT, Nat.reduceLeDiff, Bool.and_true, Bool.true_and, Bool.and_false, Bool.false_and, decide_true, decide_false, f_is_number, le_int, h.1, h.2, decide_true]
theorem le_a (c : Nat) (h : 97 ≤ c) : hLe (.str "a") (.str ⟨#[c]⟩) st = .ok (.bl true) st := by
  show Z.ok (T.bl (!decide (([c] : List Nat) < [97]))) st = _
  have : ¬ ([c] : List Nat) < [97] := by simp [List.cons_lt_cons_iff]; omega
  rw [decide_eq_false this]
  rfl
theorem le_z (c : Nat) (h : c ≤ 122) : hLe (.str ⟨#[c]⟩) (.str "z") st = .ok (.bl true) st := by
  show Z.ok (T.bl (!decide (([122] : List Nat) < [c]))) st = _
  have : ¬ ([122] : List Nat) < [c] := by simp [List.cons_lt_cons_iff]; omega
  rw [decide_eq_false this]
  rfl
theorem f_is_name (x : Str) (h : isNm x = true) : F_is_name [.str x] st = .ok (.bl true) st := by
  refine defF_rt0 rfl ?_ rfl
  unfold isNm at h
  rw [Bool.and_eq_true, Bool.and_eq_true] at h
  obtain ⟨⟨h1, h2⟩, h3⟩ := h
  have h1 := of_decide_eq_true h1
  have h2 := of_decide_eq_true h2
  unfold b_is_name
  have lm : x.length ≤ lim := Nat.le_trans h2 (by decide)
  have e1 : (1 : Int) ≤ (x.length : Int) := by omega
  have e2 : (x.length : Int) ≤ 8 := by omega
  have hc : ∀ ρ, q_is_name_1 [some (.str x), ρ] st = .ok (.lst (x.cps.toList.map fun _ => .bl true)) st := fun ρ => by
    unfold q_is_name_1
    refine vLc_goA (l := x.cps.toList) (enc := fun c => .str ⟨#[c]⟩) (by simp only [iStrF, vVar, z_ok, List.getElem?_cons_zero]; exact if_pos lm) (by simpa using (show x.cps.size ≤ lim from lm)) fun c hc => ?_
    have hc := List.all_eq_true.mp h3 c hc
    rw [Bool.and_eq_true] at hc
    exact ⟨_, rfl, by simp only [sSeq, sAsg, sRet, sRetN, sIf, sNext, sBad, sExpr, vVar, vC, v1, v2, v3, vA, vM, aNil, aCons, bOf, bNot, bAnd, bOr, vAnd, vOr, vNot, vIf, bYes, gN, startL, z_ok, z_bad, noX_okE, List.map_cons, List.map_nil, List.length_cons, List.length_nil, List.cons_append, List.nil_append, List.getElem?_cons_zero, List.getElem?_cons_succ, List.set_cons_zero, List.set_cons_succ, List.replicate_succ, List.replicate_zero, Nat.reduceAdd, Nat.reduceSub, if_true, if_false, Bool.false_eq_true, Bool.true_eq_false, Bool.not_true, Bool.not_false, eq_self, true_and, and_true, and_self, Nat.reduceLT, Nat.reduceLeDiff, Bool.and_true, Bool.true_and, Bool.and_false, Bool.false_and, decide_true, decide_false, wipeL, le_a _ c (of_decide_eq_true hc.1), le_z _ c (of_decide_eq_true hc.2)]⟩
  simp only [sSeq, sAsg, sRet, sRetN, sIf, sNext, sBad, sExpr, vVar, vC, v1, v2, v3, vA, vM, aNil, aCons, bOf, bNot, bAnd, bOr, vAnd, vOr, vNot, vIf, bYes, gN, startL, z_ok, z_bad, noX_okE, List.map_cons, List.map_nil, List.length_cons, List.length_nil, List.cons_append, List.nil_append, List.getElem?_cons_zero, List.getElem?_cons_succ, List.set_cons_zero, List.set_cons_succ, List.replicate_succ, List.replicate_zero, Nat.reduceAdd, Nat.reduceSub, if_true, if_false, Bool.false_eq_true, Bool.true_eq_false, Bool.not_true, Bool.not_false, eq_self, true_and, and_true, and_self, Nat.reduceLT, Nat.reduceLeDiff, Bool.and_true, Bool.true_and, Bool.and_false, Bool.false_and, decide_true, decide_false, hIsi, kd, kitT, hLen, asL, asT, if_pos lm, le_int, e1, e2, decide_true, hc, all_lstf (f := fun _ => true)]
  simp
theorem f_is_nameN (a : N.ν) : F_is_name [eN a] st = .ok (.bl true) st := f_is_name st _ (N.ok a)
theorem l_different (l : List N.ν) : ∀ (r d : List N.ν) (o : Option T), (d ++ r).Nodup → (d ++ r).length ≤ 100 →
    ∃ o', loop (gN 2) b_are_different_names_1 (r.map eN) [some (.tup (l.map eN)), some (.cell st.length), o] (st ++ [(false, .dK (d.map kN) (d.map fun _ => .bl true))]) = .ok (.nx [some (.tup (l.map eN)), some (.cell st.length), o']) (st ++ [(false, .dK ((d ++ r).map kN) ((d ++ r).map fun _ => .bl true))])
  | [], d, o, _, _ => ⟨o, by rw [List.append_nil]; rfl⟩
  | a :: r, d, o, h, hl => by
    obtain ⟨o', ih⟩ := l_different l r (d ++ [a]) (some (eN a)) (by rw [List.append_assoc]; exact h) (by rw [List.append_assoc]; exact hl)
    refine ⟨o', ?_⟩
    have na : a ∉ d := fun z => by
      rw [List.nodup_append] at h
      exact h.2.2 a z a (by simp) rfl
    have hd : DV (st ++ [(false, .dK (d.map kN) (d.map fun _ => .bl true))]) (.cell st.length) (d.map kN) (d.map fun _ => .bl true) := .cell (b := false) (by rw [get_app0]; rfl)
    have hk : kget (d.map kN) (d.map fun _ => T.bl true) (kN a) = none := by
      have := kget_N (fun _ : Unit => T.bl true) (d.map fun x => (x, ())) a
      rw [List.map_map, List.map_map] at this
      rw [show (d.map kN) = d.map ((fun p : N.ν × Unit => kN p.1) ∘ fun x => (x, ())) from rfl, show (d.map fun _ => T.bl true) = d.map ((fun p : N.ν × Unit => T.bl true) ∘ fun x => (x, ())) from rfl, this]
      have h2 := find_some (d.map fun x => (x, ())) a
      rw [List.map_map] at h2
      have h3 : el a (d.map ((fun p : N.ν × Unit => p.1) ∘ fun x => (x, ()))) = false := el_f (by simpa using na)
      rw [show (List.map ((fun x => x.fst) ∘ fun x => (x, ())) d) = d.map ((fun p : N.ν × Unit => p.1) ∘ fun x => (x, ())) from rfl, h3] at h2
      rw [Option.isSome_eq_false_iff, Option.isNone_iff_eq_none] at h2
      rw [h2]; rfl
    have nk : kN a ∉ d.map kN := fun z => by
      obtain ⟨b, hb, e⟩ := List.mem_map.mp z
      exact na (kN_inj.mp e ▸ hb)
    have hl2 : (d.map kN).length < lim := by
      rw [List.length_map]
      rw [List.length_append] at hl
      exact Nat.lt_of_le_of_lt (show d.length ≤ 100 by omega) (by decide)
    have hb : b_are_different_names_1 [some (.tup (l.map eN)), some (.cell st.length), some (eN a)] (st ++ [(false, .dK (d.map kN) (d.map fun _ => .bl true))]) = .ok (.nx [some (.tup (l.map eN)), some (.cell st.length), some (eN a)]) (st ++ [(false, .dK ((d ++ [a]).map kN) ((d ++ [a]).map fun _ => .bl true))]) := by
      unfold b_are_different_names_1
      simp only [sSeq, sAsg, sRet, sRetN, sIf, sNext, sBad, sExpr, vVar, vC, v1, v2, v3, vA, vM, aNil, aCons, bOf, bNot, bAnd, bOr, vAnd, vOr, vNot, vIf, bYes, gN, startL, z_ok, z_bad, noX_okE, List.map_cons, List.map_nil, List.length_cons, List.length_nil, List.cons_append, List.nil_append, List.getElem?_cons_zero, List.getElem?_cons_succ, List.set_cons_zero, List.set_cons_succ, List.replicate_succ, List.replicate_zero, Nat.reduceAdd, Nat.reduceSub, if_true, if_false, Bool.false_eq_true, Bool.true_eq_false, Bool.not_true, Bool.not_false, eq_self, true_and, and_true, and_self, Nat.reduceLT, Nat.reduceLeDiff, Bool.and_true, Bool.true_and, Bool.and_false, Bool.false_and, decide_true, decide_false, f_is_nameN, hd.in_ (key_N a), hk, sPut, hPut, get_app0, Option.isSome_none, pur_bl, key_N, if_pos hl2, set_app0, kput, if_neg nk, List.map_append]
    rw [List.map_cons, loop_step rfl hb, ih, List.append_assoc]
    rfl
theorem f_different (l : List N.ν) (h : l.Nodup) (hl : l.length ≤ 100) : F_are_different_names [.tup (l.map eN)] st = .ok (.bl true) st := by
  obtain ⟨o, hh⟩ := l_different st l l [] none h hl
  refine defF_rtA (ex := [(false, .dK (l.map kN) (l.map fun _ => .bl true))]) rfl ?_ rfl
  unfold b_are_different_names
  simp only [sSeq, sAsg, sRet, sRetN, sIf, sNext, sBad, sExpr, vVar, vC, v1, v2, v3, vA, vM, aNil, aCons, bOf, bNot, bAnd, bOr, vAnd, vOr, vNot, vIf, bYes, gN, startL, z_ok, z_bad, noX_okE, List.map_cons, List.map_nil, List.length_cons, List.length_nil, List.cons_append, List.nil_append, List.getElem?_cons_zero, List.getElem?_cons_succ, List.set_cons_zero, List.set_cons_succ, List.replicate_succ, List.replicate_zero, Nat.reduceAdd, Nat.reduceSub, if_true, if_false, Bool.false_eq_true, Bool.true_eq_false, Bool.not_true, Bool.not_false, eq_self, true_and, and_true, and_self, Nat.reduceLT, Nat.reduceLeDiff, Bool.and_true, Bool.true_and, Bool.and_false, Bool.false_and, decide_true, decide_false, vNewKc, sFor, iTupF, asT]
  rw [List.map_nil, List.map_nil] at hh
  rw [hh]
  simp only [sSeq, sAsg, sRet, sRetN, sIf, sNext, sBad, sExpr, vVar, vC, v1, v2, v3, vA, vM, aNil, aCons, bOf, bNot, bAnd, bOr, vAnd, vOr, vNot, vIf, bYes, gN, startL, z_ok, z_bad, noX_okE, List.map_cons, List.map_nil, List.length_cons, List.length_nil, List.cons_append, List.nil_append, List.getElem?_cons_zero, List.getElem?_cons_succ, List.set_cons_zero, List.set_cons_succ, List.replicate_succ, List.replicate_zero, Nat.reduceAdd, Nat.reduceSub, if_true, if_false, Bool.false_eq_true, Bool.true_eq_false, Bool.not_true, Bool.not_false, eq_self, true_and, and_true, and_self, Nat.reduceLT, Nat.reduceLeDiff, Bool.and_true, Bool.true_and, Bool.and_false, Bool.false_and, decide_true, decide_false]

theorem starA_3 (a b c : T) (l : List T) : starA 2 1 (a :: b :: (l ++ [c])) = [a, b, c, .tup l] := by
  unfold starA
  have e1 : (a :: b :: (l ++ [c])).length - 1 = l.length + 2 := by simp
  rw [e1]
  simp
theorem in12 (i : Int) (s : Sto) (p : Bool) : hIn p (.int i) (.tup [.int 1, .int 2]) s = .ok (.bl (if p then el i [(1 : Int), 2] else !el i [(1 : Int), 2])) s := in_tup (α := Int) i [1, 2] s (by decide) p
theorem ne_ot : ¬ (("_owner" : Str) = "_targets") := by decide +kernel
theorem ne_og : ¬ (("_owner" : Str) = "_goal") := by decide +kernel
theorem ne_tg : ¬ (("_targets" : Str) = "_goal") := by decide +kernel
theorem lim2 : (2 : Nat) ≤ lim := by decide
theorem lim1 : (1 : Nat) ≤ lim := by decide
theorem lim3 : (3 : Nat) ≤ lim := by decide
theorem init_field (f : Fd N) (h : f.Ok) (hl : f.tg.length ≤ 100) (ρ : T) (s : Sto) (hs : s = st ++ [(false, .ins 0 [] [])]) : b_Field___init__ [some (.cell st.length), some (.int f.ow), some (.bl f.go), some (.tup (f.tg.map eN))] s = .ok (.nx [some (.cell st.length), some (.int f.ow), some (.bl f.go), some (.tup (f.tg.map eN))]) (st ++ [(false, .ins 0 ["_owner", "_targets", "_goal"] [.int f.ow, .tup (f.tg.map eN), .bl f.go])]) := by
  subst hs
  have ho : el f.ow [(1 : Int), 2] = true := by
    rcases h.1 with e | e <;> rw [e] <;> rfl
  have pt : pur (.tup (f.tg.map eN)) = true := purs_map (fun a => pur_eN (N := N) a) f.tg
  have pt2 : purs (f.tg.map eN) = true := purs_map (fun a => pur_eN (N := N) a) f.tg
  unfold b_Field___init__
  simp only [sSeq, sAsg, sRet, sRetN, sIf, sNext, sBad, sExpr, vVar, vC, v1, v2, v3, vA, vM, aNil, aCons, bOf, bNot, bAnd, bOr, vAnd, vOr, vNot, vIf, bYes, gN, startL, z_ok, z_bad, noX_okE, List.map_cons, List.map_nil, List.length_cons, List.length_nil, List.cons_append, List.nil_append, List.getElem?_cons_zero, List.getElem?_cons_succ, List.set_cons_zero, List.set_cons_succ, List.replicate_succ, List.replicate_zero, Nat.reduceAdd, Nat.reduceSub, if_true, if_false, Bool.false_eq_true, Bool.true_eq_false, Bool.not_true, Bool.not_false, eq_self, true_and, and_true, and_self, Nat.reduceLT, Nat.reduceLeDiff, Bool.and_true, Bool.true_and, Bool.and_false, Bool.false_and, decide_true, decide_false, f_is_number, f_different _ _ h.2 hl, hTup, if_pos lim2, in12, ho, hIsi, kd, kitT, sFput, hFput, get_app0, pt, pt2, pur_tup, pur_int, pur_bl, putN, if_neg ne_ot, if_neg ne_og, if_neg ne_tg, set_app0]
theorem mk_field (f : Fd N) (h : f.Ok) (hl : f.tg.length ≤ 100) : mkF fnX 0 F_Field___init__ (.int f.ow :: (f.tg.map eN ++ [.bl f.go])) st = .ok (eF f) st := by
  unfold mkF F_Field___init__ starF
  have e1 : (decide (2 + 1 ≤ (T.cell st.length :: .int f.ow :: (f.tg.map eN ++ [.bl f.go])).length) && decide ((T.cell st.length :: .int f.ow :: (f.tg.map eN ++ [.bl f.go])).length ≤ lim)) = true := by
    simp [lim]
    omega
  rw [if_pos e1, starA_3]
  unfold runB
  rw [show startL 4 [T.cell st.length, .int f.ow, .bl f.go, .tup (f.tg.map eN)] = [some (.cell st.length), some (.int f.ow), some (.bl f.go), some (.tup (f.tg.map eN))] from rfl, init_field st f h hl (.non) _ rfl]
  simp only [z_ok, trunc, fz]
  have pt : purs (f.tg.map eN) = true := purs_map (fun a => pur_eN (N := N) a) f.tg
  rw [show (st ++ [(false, MO.ins 0 [Str.ofString "_owner", Str.ofString "_targets", Str.ofString "_goal"] [T.int f.ow, T.tup (f.tg.map eN), T.bl f.go])]).take (st ++ [(false, MO.ins 0 [] [])]).length = st ++ [(false, MO.ins 0 [Str.ofString "_owner", Str.ofString "_targets", Str.ofString "_goal"] [T.int f.ow, T.tup (f.tg.map eN), T.bl f.go])] from List.take_of_length_le (by simp)]
  rw [if_neg (Nat.lt_irrefl _), get_app0, List.take_left]
  rfl

theorem p_owner (f : Fd N) : hProp fnX 0 F_Field_owner (eF f) st = .ok (.int f.ow) st := by
  show noX (F_Field_owner [eF f] st) = _
  rw [show F_Field_owner [eF f] st = .ok (.int f.ow) st from defF_rt0 rfl rfl rfl]
  rfl
theorem p_targets (f : Fd N) : hProp fnX 0 F_Field_targets (eF f) st = .ok (.tup (f.tg.map eN)) st := by
  show noX (F_Field_targets [eF f] st) = _
  rw [show F_Field_targets [eF f] st = .ok (.tup (f.tg.map eN)) st from defF_rt0 rfl (by
    unfold b_Field_targets
    simp only [sSeq, sAsg, sRet, sRetN, sIf, sNext, sBad, sExpr, vVar, vC, v1, v2, v3, vA, vM, aNil, aCons, bOf, bNot, bAnd, bOr, vAnd, vOr, vNot, vIf, bYes, gN, startL, z_ok, z_bad, noX_okE, List.map_cons, List.map_nil, List.length_cons, List.length_nil, List.cons_append, List.nil_append, List.getElem?_cons_zero, List.getElem?_cons_succ, List.set_cons_zero, List.set_cons_succ, List.replicate_succ, List.replicate_zero, Nat.reduceAdd, Nat.reduceSub, if_true, if_false, Bool.false_eq_true, Bool.true_eq_false, Bool.not_true, Bool.not_false, eq_self, true_and, and_true, and_self, Nat.reduceLT, Nat.reduceLeDiff, Bool.and_true, Bool.true_and, Bool.and_false, Bool.false_and, decide_true, decide_false, hFld, eF, insOf, fnX, kget, if_neg ne_ot]) (purs_map (fun a => pur_eN (N := N) a) f.tg)]
  rfl
theorem p_goal (f : Fd N) : hProp fnX 0 F_Field_goal (eF f) st = .ok (.bl f.go) st := by
  show noX (F_Field_goal [eF f] st) = _
  rw [show F_Field_goal [eF f] st = .ok (.bl f.go) st from defF_rt0 rfl (by
    unfold b_Field_goal
    simp only [sSeq, sAsg, sRet, sRetN, sIf, sNext, sBad, sExpr, vVar, vC, v1, v2, v3, vA, vM, aNil, aCons, bOf, bNot, bAnd, bOr, vAnd, vOr, vNot, vIf, bYes, gN, startL, z_ok, z_bad, noX_okE, List.map_cons, List.map_nil, List.length_cons, List.length_nil, List.cons_append, List.nil_append, List.getElem?_cons_zero, List.getElem?_cons_succ, List.set_cons_zero, List.set_cons_succ, List.replicate_succ, List.replicate_zero, Nat.reduceAdd, Nat.reduceSub, if_true, if_false, Bool.false_eq_true, Bool.true_eq_false, Bool.not_true, Bool.not_false, eq_self, true_and, and_true, and_self, Nat.reduceLT, Nat.reduceLeDiff, Bool.and_true, Bool.true_and, Bool.and_false, Bool.false_and, decide_true, decide_false, hFld, eF, insOf, fnX, kget, if_neg ne_og, if_neg ne_tg]) rfl]
  rfl
theorem f_contains (f : Fd N) (a : N.ν) : F_Field___contains__ [eF f, eN a] st = .ok (.bl (el a f.tg)) st := by
  refine defF_rt0 rfl ?_ rfl
  unfold b_Field___contains__
  have h := in_tup (α := N.ν) a f.tg st (by exact Nat.zero_le _) true
  rw [← eN_enc] at h
  simp only [sSeq, sAsg, sRet, sRetN, sIf, sNext, sBad, sExpr, vVar, vC, v1, v2, v3, vA, vM, aNil, aCons, bOf, bNot, bAnd, bOr, vAnd, vOr, vNot, vIf, bYes, gN, startL, z_ok, z_bad, noX_okE, List.map_cons, List.map_nil, List.length_cons, List.length_nil, List.cons_append, List.nil_append, List.getElem?_cons_zero, List.getElem?_cons_succ, List.set_cons_zero, List.set_cons_succ, List.replicate_succ, List.replicate_zero, Nat.reduceAdd, Nat.reduceSub, if_true, if_false, Bool.false_eq_true, Bool.true_eq_false, Bool.not_true, Bool.not_false, eq_self, true_and, and_true, and_self, Nat.reduceLT, Nat.reduceLeDiff, Bool.and_true, Bool.true_and, Bool.and_false, Bool.false_and, decide_true, decide_false, hIsi, eN, kd, kitT, hFld, eF, insOf, fnX, kget, if_neg ne_ot]
  simp only [eN] at h
  rw [h]
  rfl
theorem o_contains (f : Fd N) (a : N.ν) : hInO fnX 0 (fun b => b) F_Field___contains__ (eN a) (eF f) st = .ok (.bl (el a f.tg)) st := by
  unfold hInO hOwn2
  rw [show insOf fnX 0 st (eF f) = some (fnX 0, [.int f.ow, .tup (f.tg.map eN), .bl f.go]) from rfl]
  simp only [f_contains, blZ, z_ok]
theorem in_names (a : N.ν) (l : List N.ν) (s : Sto) (p : Bool) : hIn p (eN a) (.lst (l.map eN)) s = .ok (.bl (if p then el a l else !el a l)) s := in_lst (α := N.ν) a l s (Nat.zero_le _) p
theorem f_within (f : Fd N) (l : List N.ν) (hf : ∀ x ∈ f.tg, x ∈ l) (hl : f.tg.length ≤ 100) : F_is_field_within [eF f, .lst (l.map eN)] st = .ok (.bl true) st := by
  refine defF_rt0 rfl ?_ rfl
  have hq : q_is_field_within_1 [some (eF f), some (.lst (l.map eN)), none] st = .ok (.lst (f.tg.map fun _ => .bl true)) st := by
    unfold q_is_field_within_1
    refine vLc_goA (l := f.tg) (enc := eN) (by simp only [iTupF, sSeq, sAsg, sRet, sRetN, sIf, sNext, sBad, sExpr, vVar, vC, v1, v2, v3, vA, vM, aNil, aCons, bOf, bNot, bAnd, bOr, vAnd, vOr, vNot, vIf, bYes, gN, startL, z_ok, z_bad, noX_okE, List.map_cons, List.map_nil, List.length_cons, List.length_nil, List.cons_append, List.nil_append, List.getElem?_cons_zero, List.getElem?_cons_succ, List.set_cons_zero, List.set_cons_succ, List.replicate_succ, List.replicate_zero, Nat.reduceAdd, Nat.reduceSub, if_true, if_false, Bool.false_eq_true, Bool.true_eq_false, Bool.not_true, Bool.not_false, eq_self, true_and, and_true, and_self, Nat.reduceLT, Nat.reduceLeDiff, Bool.and_true, Bool.true_and, Bool.and_false, Bool.false_and, decide_true, decide_false, p_targets, asT]) (Nat.le_trans hl (by decide)) fun a ha => ⟨_, rfl, ?_⟩
    simp only [sSeq, sAsg, sRet, sRetN, sIf, sNext, sBad, sExpr, vVar, vC, v1, v2, v3, vA, vM, aNil, aCons, bOf, bNot, bAnd, bOr, vAnd, vOr, vNot, vIf, bYes, gN, startL, z_ok, z_bad, noX_okE, List.map_cons, List.map_nil, List.length_cons, List.length_nil, List.cons_append, List.nil_append, List.getElem?_cons_zero, List.getElem?_cons_succ, List.set_cons_zero, List.set_cons_succ, List.replicate_succ, List.replicate_zero, Nat.reduceAdd, Nat.reduceSub, if_true, if_false, Bool.false_eq_true, Bool.true_eq_false, Bool.not_true, Bool.not_false, eq_self, true_and, and_true, and_self, Nat.reduceLT, Nat.reduceLeDiff, Bool.and_true, Bool.true_and, Bool.and_false, Bool.false_and, decide_true, decide_false, wipeL, in_names, el_t (hf a ha)]
  unfold b_is_field_within
  simp only [sSeq, sAsg, sRet, sRetN, sIf, sNext, sBad, sExpr, vVar, vC, v1, v2, v3, vA, vM, aNil, aCons, bOf, bNot, bAnd, bOr, vAnd, vOr, vNot, vIf, bYes, gN, startL, z_ok, z_bad, noX_okE, List.map_cons, List.map_nil, List.length_cons, List.length_nil, List.cons_append, List.nil_append, List.getElem?_cons_zero, List.getElem?_cons_succ, List.set_cons_zero, List.set_cons_succ, List.replicate_succ, List.replicate_zero, Nat.reduceAdd, Nat.reduceSub, if_true, if_false, Bool.false_eq_true, Bool.true_eq_false, Bool.not_true, Bool.not_false, eq_self, true_and, and_true, and_self, Nat.reduceLT, Nat.reduceLeDiff, Bool.and_true, Bool.true_and, Bool.and_false, Bool.false_and, decide_true, decide_false, hIsiC, eF, kd]
  rw [show (T.ins 0 [T.int f.ow, T.tup (f.tg.map eN), T.bl f.go]) = eF f from rfl, hq]
  simp only [sSeq, sAsg, sRet, sRetN, sIf, sNext, sBad, sExpr, vVar, vC, v1, v2, v3, vA, vM, aNil, aCons, bOf, bNot, bAnd, bOr, vAnd, vOr, vNot, vIf, bYes, gN, startL, z_ok, z_bad, noX_okE, List.map_cons, List.map_nil, List.length_cons, List.length_nil, List.cons_append, List.nil_append, List.getElem?_cons_zero, List.getElem?_cons_succ, List.set_cons_zero, List.set_cons_succ, List.replicate_succ, List.replicate_zero, Nat.reduceAdd, Nat.reduceSub, if_true, if_false, Bool.false_eq_true, Bool.true_eq_false, Bool.not_true, Bool.not_false, eq_self, true_and, and_true, and_self, Nat.reduceLT, Nat.reduceLeDiff, Bool.and_true, Bool.true_and, Bool.and_false, Bool.false_and, decide_true, decide_false, all_lstf (f := fun _ => true)]
  simp
/-- the dict of a board's fields -/
abbrev fk (fs : List (N.ν × Fd N)) : List Key := fs.map fun p => kN p.1
abbrev fv (fs : List (N.ν × Fd N)) : List T := fs.map fun p => eF p.2
theorem kget_F {fs : List (N.ν × Fd N)} (hn : (fs.map (·.1)).Nodup) {p : N.ν × Fd N} (hp : p ∈ fs) : kget (fk fs) (fv fs) (kN p.1) = some (eF p.2) := by
  rw [show kget (fk fs) (fv fs) (kN p.1) = _ from kget_N eF fs p.1, find_mem hn hp]
  rfl
theorem f_check_fields {t : T} (fs : List (N.ν × Fd N)) (h : DV st t (fk fs) (fv fs)) (hf : freeT t st = true) (hn : (fs.map (·.1)).Nodup) (hl : 1 ≤ fs.length ∧ fs.length ≤ 8) (ht : ∀ p ∈ fs, p.2.tg.length ≤ 100 ∧ ∀ x ∈ p.2.tg, x ∈ fs.map (·.1)) : F_check_fields [t] st = .ok .non st := by
  have hk : dictKeys st t = some (fs.map fun p => eN p.1) := by rw [h.keys, keys_N]
  have hq : ∀ o, q_check_fields_1 [some t, none, o] st = .ok (.lst ((fs.map (·.1)).map eN)) st := fun o => by
    unfold q_check_fields_1
    rw [vLcD_go (t := t) (l := fs) (enc := fun p => eN p.1) (p := fun _ => true) (h := fun p => eN p.1) rfl hk hf (Nat.le_trans hl.2 (by decide)) fun p hp => ⟨_, rfl, by simp only [sSeq, sAsg, sRet, sRetN, sIf, sNext, sBad, sExpr, vVar, vC, v1, v2, v3, vA, vM, aNil, aCons, bOf, bNot, bAnd, bOr, vAnd, vOr, vNot, vIf, bYes, gN, startL, z_ok, z_bad, noX_okE, List.map_cons, List.map_nil, List.length_cons, List.length_nil, List.cons_append, List.nil_append, List.getElem?_cons_zero, List.getElem?_cons_succ, List.set_cons_zero, List.set_cons_succ, List.replicate_succ, List.replicate_zero, Nat.reduceAdd, Nat.reduceSub, if_true, if_false, Bool.false_eq_true, Bool.true_eq_false, Bool.not_true, Bool.not_false, eq_self, true_and, and_true, and_self, Nat.reduceLT, Nat.reduceLeDiff, Bool.and_true, Bool.true_and, Bool.and_false, Bool.false_and, decide_true, decide_false, wipeL, f_is_nameN], fun _ => by simp only [sSeq, sAsg, sRet, sRetN, sIf, sNext, sBad, sExpr, vVar, vC, v1, v2, v3, vA, vM, aNil, aCons, bOf, bNot, bAnd, bOr, vAnd, vOr, vNot, vIf, bYes, gN, startL, z_ok, z_bad, noX_okE, List.map_cons, List.map_nil, List.length_cons, List.length_nil, List.cons_append, List.nil_append, List.getElem?_cons_zero, List.getElem?_cons_succ, List.set_cons_zero, List.set_cons_succ, List.replicate_succ, List.replicate_zero, Nat.reduceAdd, Nat.reduceSub, if_true, if_false, Bool.false_eq_true, Bool.true_eq_false, Bool.not_true, Bool.not_false, eq_self, true_and, and_true, and_self, Nat.reduceLT, Nat.reduceLeDiff, Bool.and_true, Bool.true_and, Bool.and_false, Bool.false_and, decide_true, decide_false, wipeL]⟩]
    rw [List.filter_eq_self.mpr (fun _ _ => rfl), List.map_map]
    rfl
  have hloop : ∀ (r : List (N.ν × Fd N)) (o : Option T), (∀ p ∈ r, p ∈ fs) → ∃ o', loop (gN 2) b_check_fields_2 (r.map fun p => eN p.1) [some t, some (.lst ((fs.map (·.1)).map eN)), o] (lockT t st) = .ok (.nx [some t, some (.lst ((fs.map (·.1)).map eN)), o']) (lockT t st) := by
    intro r
    induction r with
    | nil => exact fun o _ => ⟨o, rfl⟩
    | cons p r ih =>
      intro o hr
      obtain ⟨o', ih⟩ := ih (some (eN p.1)) fun q hq => hr q (List.mem_cons_of_mem _ hq)
      have hp := hr p (by simp)
      refine ⟨o', ?_⟩
      rw [List.map_cons, loop_step (ρ2 := [some t, some (.lst ((fs.map (·.1)).map eN)), some (eN p.1)]) (s' := lockT t st) rfl ?_, ih]
      unfold b_check_fields_2
      simp only [sSeq, sAsg, sRet, sRetN, sIf, sNext, sBad, sExpr, vVar, vC, v1, v2, v3, vA, vM, aNil, aCons, bOf, bNot, bAnd, bOr, vAnd, vOr, vNot, vIf, bYes, gN, startL, z_ok, z_bad, noX_okE, List.map_cons, List.map_nil, List.length_cons, List.length_nil, List.cons_append, List.nil_append, List.getElem?_cons_zero, List.getElem?_cons_succ, List.set_cons_zero, List.set_cons_succ, List.replicate_succ, List.replicate_zero, Nat.reduceAdd, Nat.reduceSub, if_true, if_false, Bool.false_eq_true, Bool.true_eq_false, Bool.not_true, Bool.not_false, eq_self, true_and, and_true, and_self, Nat.reduceLT, Nat.reduceLeDiff, Bool.and_true, Bool.true_and, Bool.and_false, Bool.false_and, decide_true, decide_false, f_is_nameN, h.lock.ix (key_N p.1) (kget_F hn hp), f_within _ p.2 _ (ht p hp).2 (ht p hp).1]
  obtain ⟨o', hl2⟩ := hloop fs none fun _ h => h
  refine defF_nx0 rfl (ρ := [some t, some (.lst ((fs.map (·.1)).map eN)), o']) ?_
  unfold b_check_fields
  have e1 : (1 : Int) ≤ ((fk fs).length : Int) := by rw [List.length_map]; omega
  have e2 : ((fk fs).length : Int) ≤ 8 := by rw [List.length_map]; omega
  simp only [sSeq, sAsg, sRet, sRetN, sIf, sNext, sBad, sExpr, vVar, vC, v1, v2, v3, vA, vM, aNil, aCons, bOf, bNot, bAnd, bOr, vAnd, vOr, vNot, vIf, bYes, gN, startL, z_ok, z_bad, noX_okE, List.map_cons, List.map_nil, List.length_cons, List.length_nil, List.cons_append, List.nil_append, List.getElem?_cons_zero, List.getElem?_cons_succ, List.set_cons_zero, List.set_cons_succ, List.replicate_succ, List.replicate_zero, Nat.reduceAdd, Nat.reduceSub, if_true, if_false, Bool.false_eq_true, Bool.true_eq_false, Bool.not_true, Bool.not_false, eq_self, true_and, and_true, and_self, Nat.reduceLT, Nat.reduceLeDiff, Bool.and_true, Bool.true_and, Bool.and_false, Bool.false_and, decide_true, decide_false, hIsi, h.kd, kitT, h.len, le_int, e1, e2, hq, sForD, pVar, hk, hf, hl2, back_lock]

theorem isi_tup (xs : List T) (s : Sto) : hIsi .tuple [] (.tup xs) s = .ok (.bl true) s := rfl
theorem isi_str (x : Str) (s : Sto) : hIsi .str [] (.str x) s = .ok (.bl true) s := rfl
theorem ne_int (i j : Int) (s : Sto) : hEqF false (.int i) (.int j) s = .ok (.bl (!decide (i = j))) s := neT_enc (α := Int) i j s (by decide)
theorem eq_int (i j : Int) (s : Sto) : hEqF true (.int i) (.int j) s = .ok (.bl (decide (i = j))) s := eqT_enc (α := Int) i j s (by decide)
theorem f_pair (m : Mv N) : F_is_pair_of_strings [eM m] st = .ok (.bl true) st := by
  refine defF_rt0 rfl ?_ rfl
  unfold b_is_pair_of_strings eM eN
  simp only [sSeq, sAsg, sRet, sRetN, sIf, sNext, sBad, sExpr, vVar, vC, v1, v2, v3, vA, vM, aNil, aCons, bOf, bNot, bAnd, bOr, vAnd, vOr, vNot, vIf, bYes, gN, startL, z_ok, z_bad, noX_okE, List.map_cons, List.map_nil, List.length_cons, List.length_nil, List.cons_append, List.nil_append, List.getElem?_cons_zero, List.getElem?_cons_succ, List.set_cons_zero, List.set_cons_succ, List.replicate_succ, List.replicate_zero, Nat.reduceAdd, Nat.reduceSub, if_true, if_false, Bool.false_eq_true, Bool.true_eq_false, Bool.not_true, Bool.not_false, eq_self, true_and, and_true, and_self, Nat.reduceLT, Nat.reduceLeDiff, Bool.and_true, Bool.true_and, Bool.and_false, Bool.false_and, decide_true, decide_false, isi_tup, len_tup, ne_int, ixe_tup, at_0, at_1, isi_str]
  rfl
theorem f_is_move {t : T} (fs : List (N.ν × Fd N)) (h : DV st t (fk fs) (fv fs)) (hn : (fs.map (·.1)).Nodup) (m : Mv N) {p : N.ν × Fd N} (hp : p ∈ fs) (e : p.1 = m.1) (hm : m.2 ∈ p.2.tg) : F_is_move [t, eM m] st = .ok (.bl true) st := by
  refine defF_rt0 rfl ?_ rfl
  have hk := kget_F hn hp
  rw [e] at hk
  have pr := f_pair st m
  have ic := o_contains st p.2 m.2
  unfold b_is_move
  unfold eM at pr
  unfold eM
  simp only [sSeq, sAsg, sRet, sRetN, sIf, sNext, sBad, sExpr, vVar, vC, v1, v2, v3, vA, vM, aNil, aCons, bOf, bNot, bAnd, bOr, vAnd, vOr, vNot, vIf, bYes, gN, startL, z_ok, z_bad, noX_okE, List.map_cons, List.map_nil, List.length_cons, List.length_nil, List.cons_append, List.nil_append, List.getElem?_cons_zero, List.getElem?_cons_succ, List.set_cons_zero, List.set_cons_succ, List.replicate_succ, List.replicate_zero, Nat.reduceAdd, Nat.reduceSub, if_true, if_false, Bool.false_eq_true, Bool.true_eq_false, Bool.not_true, Bool.not_false, eq_self, true_and, and_true, and_self, Nat.reduceLT, Nat.reduceLeDiff, Bool.and_true, Bool.true_and, Bool.and_false, Bool.false_and, decide_true, decide_false, pr, ixe_tup, at_0, at_1, h.in_ (key_N m.1), hk, Option.isSome_some, h.ix (key_N m.1) hk, ic, el_t hm]
/-- the dict of a board's prices -/
abbrev pk (ps : List (Mv N × Int)) : List (List Key) := ps.map fun p => kM p.1
abbrev pv (ps : List (Mv N × Int)) : List T := ps.map fun p => .int p.2
theorem kget_P {ps : List (Mv N × Int)} (hn : (ps.map (·.1)).Nodup) {p : Mv N × Int} (hp : p ∈ ps) : kget (pk ps) (pv ps) (kM p.1) = some (.int p.2) := by
  rw [show kget (pk ps) (pv ps) (kM p.1) = _ from kget_M (fun i => T.int i) ps p.1, find_mem hn hp]
  rfl
theorem f_are_prices {t u : T} (fs : List (N.ν × Fd N)) (ps : List (Mv N × Int)) (hfl : DV (lockT u st) t (fk fs) (fv fs)) (hn : (fs.map (·.1)).Nodup) (h : TV st u (pk ps) (pv ps)) (hf : freeT u st = true) (hpn : (ps.map (·.1)).Nodup) (hl : ps.length ≤ 6)
    (hm : ∀ p ∈ ps, (∃ q ∈ fs, q.1 = p.1.1 ∧ p.1.2 ∈ q.2.tg) ∧ 1 ≤ p.2 ∧ p.2 ≤ 9) : F_are_prices [t, u] st = .ok (.bl true) st := by
  refine defF_rt0 rfl ?_ rfl
  have hk : dictKeys st u = some (ps.map fun p => eM p.1) := by rw [h.keys, keys_M]
  have hq : q_are_prices_1 [some t, some u, none] st = .ok (.lst (ps.map fun _ => .bl true)) st := by
    unfold q_are_prices_1
    rw [vLcD_go (t := u) (l := ps) (enc := fun p => eM p.1) (p := fun _ => true) (h := fun p => .bl true) rfl hk hf (Nat.le_trans hl (by decide)) fun p hp => ⟨_, rfl, rfl, fun _ => ?_⟩]
    · rw [List.filter_eq_self.mpr (fun _ _ => rfl)]
    · obtain ⟨⟨q, hq1, hq2, hq3⟩, hc⟩ := hm p hp
      simp only [sSeq, sAsg, sRet, sRetN, sIf, sNext, sBad, sExpr, vVar, vC, v1, v2, v3, vA, vM, aNil, aCons, bOf, bNot, bAnd, bOr, vAnd, vOr, vNot, vIf, bYes, gN, startL, z_ok, z_bad, noX_okE, List.map_cons, List.map_nil, List.length_cons, List.length_nil, List.cons_append, List.nil_append, List.getElem?_cons_zero, List.getElem?_cons_succ, List.set_cons_zero, List.set_cons_succ, List.replicate_succ, List.replicate_zero, Nat.reduceAdd, Nat.reduceSub, if_true, if_false, Bool.false_eq_true, Bool.true_eq_false, Bool.not_true, Bool.not_false, eq_self, true_and, and_true, and_self, Nat.reduceLT, Nat.reduceLeDiff, Bool.and_true, Bool.true_and, Bool.and_false, Bool.false_and, decide_true, decide_false, wipeL, f_is_move _ fs hfl hn p.1 hq1 hq2 hq3, h.lock.ix (keyT_M p.1) (kget_P hpn hp), f_is_cost _ _ hc]
  unfold b_are_prices
  have e1 : ¬ (6 : Int) < ((pk ps).length : Int) := by rw [List.length_map]; omega
  simp only [sSeq, sAsg, sRet, sRetN, sIf, sNext, sBad, sExpr, vVar, vC, v1, v2, v3, vA, vM, aNil, aCons, bOf, bNot, bAnd, bOr, vAnd, vOr, vNot, vIf, bYes, gN, startL, z_ok, z_bad, noX_okE, List.map_cons, List.map_nil, List.length_cons, List.length_nil, List.cons_append, List.nil_append, List.getElem?_cons_zero, List.getElem?_cons_succ, List.set_cons_zero, List.set_cons_succ, List.replicate_succ, List.replicate_zero, Nat.reduceAdd, Nat.reduceSub, if_true, if_false, Bool.false_eq_true, Bool.true_eq_false, Bool.not_true, Bool.not_false, eq_self, true_and, and_true, and_self, Nat.reduceLT, Nat.reduceLeDiff, Bool.and_true, Bool.true_and, Bool.and_false, Bool.false_and, decide_true, decide_false, hIsi, h.kd, kitT, h.len, gt_int, decide_eq_false e1, hq, all_lstf (f := fun _ => true)]
  simp
theorem ne_fs : ¬ (("_fields" : Str) = "_start") := by decide +kernel
theorem ne_fp : ¬ (("_fields" : Str) = "_prices") := by decide +kernel
theorem ne_sp : ¬ (("_start" : Str) = "_prices") := by decide +kernel
theorem mk_board (b : Bd N) (hb : b.Ok) {t : T} (h : DV st t (fk b.fs) (fv b.fs)) (hf : freeT t st = true) : mkF fnX 1 F_Board___init__ [t, eN b.st, .dT (pk b.ps) (pv b.ps)] st = .ok (eB b) st := by
  have hn : (b.fs.map (·.1)).Nodup := hb.nod
  have tg : ∀ p ∈ b.fs, p.2.tg.length ≤ 100 ∧ ∀ x ∈ p.2.tg, x ∈ b.fs.map (·.1) := fun p hp => by
    refine ⟨?_, hb.tgs p hp⟩
    have l1 : p.2.tg.length ≤ (b.fs.map (·.1)).length := nodup_len (hb.fok p hp).2 (hb.tgs p hp)
    rw [List.length_map] at l1
    have := hb.few
    omega
  have ln : 1 ≤ b.fs.length ∧ b.fs.length ≤ 8 := ⟨List.length_pos_iff.mpr hb.some, hb.few⟩
  have s1 := h.app (ex := [(false, .ins 1 [] [])])
  have f1 := free_app (ex := [(false, .ins 1 [] [])]) hf
  have c1 := f_check_fields _ b.fs s1 f1 hn ln tg
  have c2 : F_are_prices [t, .dT (pk b.ps) (pv b.ps)] (st ++ [(false, .ins 1 [] [])]) = .ok (.bl true) (st ++ [(false, .ins 1 [] [])]) := by
    refine f_are_prices _ b.fs b.ps s1 hn .dT rfl hb.mnod hb.mfew fun p hp => ⟨?_, hb.cost p hp⟩
    obtain ⟨h1, h2⟩ := hb.mok p hp
    obtain ⟨q, hq, e⟩ := List.mem_map.mp h1
    refine ⟨q, hq, e, ?_⟩
    have := find_mem hn hq
    unfold Bd.fld at h2
    rw [← e, this] at h2
    exact h2
  have hkF : dictKeys (st ++ [(false, .ins 1 [] [])]) t = some (b.fs.map fun p => eN p.1) := by rw [s1.keys, keys_N]
  have hn2 : ((b.fs.filter fun _ => true).map fun p => kN p.1).Nodup := by
    rw [List.filter_eq_self.mpr (fun _ _ => rfl)]
    exact nodup_kN hn
  have q1 : q_Board___init___1 [some (.cell st.length), some t, some (eN b.st), some (.dT (pk b.ps) (pv b.ps)), none, none] (st ++ [(false, .ins 1 [] [])]) = .ok (.dK (fk b.fs) (fv b.fs)) (st ++ [(false, .ins 1 [] [])]) := by
    unfold q_Board___init___1
    rw [vDcD_go (t := t) (l := b.fs) (enc := fun p => eN p.1) (kt := fun p => eN p.1) (val := fun p => eF p.2) (kf := fun p => kN p.1) (p := fun _ => true) (fun p => key_N p.1) rfl hkF f1 hn2 (Nat.le_trans hb.few (by decide)) fun p hp => ⟨_, rfl, rfl, fun _ => ⟨by simp only [sSeq, sAsg, sRet, sRetN, sIf, sNext, sBad, sExpr, vVar, vC, v1, v2, v3, vA, vM, aNil, aCons, bOf, bNot, bAnd, bOr, vAnd, vOr, vNot, vIf, bYes, gN, startL, z_ok, z_bad, noX_okE, List.map_cons, List.map_nil, List.length_cons, List.length_nil, List.cons_append, List.nil_append, List.getElem?_cons_zero, List.getElem?_cons_succ, List.set_cons_zero, List.set_cons_succ, List.replicate_succ, List.replicate_zero, Nat.reduceAdd, Nat.reduceSub, if_true, if_false, Bool.false_eq_true, Bool.true_eq_false, Bool.not_true, Bool.not_false, eq_self, true_and, and_true, and_self, Nat.reduceLT, Nat.reduceLeDiff, Bool.and_true, Bool.true_and, Bool.and_false, Bool.false_and, decide_true, decide_false, wipeL], by simp only [sSeq, sAsg, sRet, sRetN, sIf, sNext, sBad, sExpr, vVar, vC, v1, v2, v3, vA, vM, aNil, aCons, bOf, bNot, bAnd, bOr, vAnd, vOr, vNot, vIf, bYes, gN, startL, z_ok, z_bad, noX_okE, List.map_cons, List.map_nil, List.length_cons, List.length_nil, List.cons_append, List.nil_append, List.getElem?_cons_zero, List.getElem?_cons_succ, List.set_cons_zero, List.set_cons_succ, List.replicate_succ, List.replicate_zero, Nat.reduceAdd, Nat.reduceSub, if_true, if_false, Bool.false_eq_true, Bool.true_eq_false, Bool.not_true, Bool.not_false, eq_self, true_and, and_true, and_self, Nat.reduceLT, Nat.reduceLeDiff, Bool.and_true, Bool.true_and, Bool.and_false, Bool.false_and, decide_true, decide_false, wipeL, s1.lock.ix (key_N p.1) (kget_F hn hp)]⟩⟩]
    rw [List.filter_eq_self.mpr (fun _ _ => rfl)]
  have hm2 : ((b.ps.filter fun _ => true).map fun p => kM p.1).Nodup := by
    rw [List.filter_eq_self.mpr (fun _ _ => rfl)]
    exact nodup_kM hb.mnod
  have q2 : ∀ s : Sto, q_Board___init___2 [some (.cell st.length), some t, some (eN b.st), some (.dT (pk b.ps) (pv b.ps)), none, none] s = .ok (.dT (pk b.ps) (pv b.ps)) s := fun s => by
    unfold q_Board___init___2
    rw [vEcD_go (t := .dT (pk b.ps) (pv b.ps)) (l := b.ps) (enc := fun p => eM p.1) (kt := fun p => eM p.1) (val := fun p => .int p.2) (kf := fun p => kM p.1) (p := fun _ => true) (fun p => keyT_M p.1) rfl (by rw [TV.dT.keys, keys_M]) rfl hm2 (Nat.le_trans hb.mfew (by decide)) fun p hp => ⟨_, rfl, rfl, fun _ => ⟨by simp only [sSeq, sAsg, sRet, sRetN, sIf, sNext, sBad, sExpr, vVar, vC, v1, v2, v3, vA, vM, aNil, aCons, bOf, bNot, bAnd, bOr, vAnd, vOr, vNot, vIf, bYes, gN, startL, z_ok, z_bad, noX_okE, List.map_cons, List.map_nil, List.length_cons, List.length_nil, List.cons_append, List.nil_append, List.getElem?_cons_zero, List.getElem?_cons_succ, List.set_cons_zero, List.set_cons_succ, List.replicate_succ, List.replicate_zero, Nat.reduceAdd, Nat.reduceSub, if_true, if_false, Bool.false_eq_true, Bool.true_eq_false, Bool.not_true, Bool.not_false, eq_self, true_and, and_true, and_self, Nat.reduceLT, Nat.reduceLeDiff, Bool.and_true, Bool.true_and, Bool.and_false, Bool.false_and, decide_true, decide_false, wipeL], by simp only [sSeq, sAsg, sRet, sRetN, sIf, sNext, sBad, sExpr, vVar, vC, v1, v2, v3, vA, vM, aNil, aCons, bOf, bNot, bAnd, bOr, vAnd, vOr, vNot, vIf, bYes, gN, startL, z_ok, z_bad, noX_okE, List.map_cons, List.map_nil, List.length_cons, List.length_nil, List.cons_append, List.nil_append, List.getElem?_cons_zero, List.getElem?_cons_succ, List.set_cons_zero, List.set_cons_succ, List.replicate_succ, List.replicate_zero, Nat.reduceAdd, Nat.reduceSub, if_true, if_false, Bool.false_eq_true, Bool.true_eq_false, Bool.not_true, Bool.not_false, eq_self, true_and, and_true, and_self, Nat.reduceLT, Nat.reduceLeDiff, Bool.and_true, Bool.true_and, Bool.and_false, Bool.false_and, decide_true, decide_false, wipeL, TV.dT.lock.ix (keyT_M p.1) (kget_P hb.mnod hp)]⟩⟩]
    rw [List.filter_eq_self.mpr (fun _ _ => rfl)]
  have hst : kget (fk b.fs) (fv b.fs) (kN b.st) ≠ none := by
    obtain ⟨p, hp, e⟩ := List.mem_map.mp hb.st
    rw [← e, kget_F hn hp]
    exact fun z => nomatch z
  have hst2 : (kget (fk b.fs) (fv b.fs) (kN b.st)).isSome = true := Option.isSome_iff_ne_none.mpr hst
  have pF : purs (fv b.fs) = true := purs_map (f := fun p : N.ν × Fd N => eF p.2) (fun a => pur_eF a.2) _
  have pP : purs (pv b.ps) = true := purs_map (f := fun p : Mv N × Int => T.int p.2) (fun _ => rfl) _
  have body : b_Board___init__ [some (.cell st.length), some t, some (eN b.st), some (.dT (pk b.ps) (pv b.ps)), none, none] (st ++ [(false, .ins 1 [] [])]) = .ok (.nx [some (.cell st.length), some t, some (eN b.st), some (.dT (pk b.ps) (pv b.ps)), none, none]) (st ++ [(false, .ins 1 ["_fields", "_start", "_prices"] [.dK (fk b.fs) (fv b.fs), eN b.st, .dT (pk b.ps) (pv b.ps)])]) := by
    unfold b_Board___init__
    simp only [sSeq, sAsg, sRet, sRetN, sIf, sNext, sBad, sExpr, vVar, vC, v1, v2, v3, vA, vM, aNil, aCons, bOf, bNot, bAnd, bOr, vAnd, vOr, vNot, vIf, bYes, gN, startL, z_ok, z_bad, noX_okE, List.map_cons, List.map_nil, List.length_cons, List.length_nil, List.cons_append, List.nil_append, List.getElem?_cons_zero, List.getElem?_cons_succ, List.set_cons_zero, List.set_cons_succ, List.replicate_succ, List.replicate_zero, Nat.reduceAdd, Nat.reduceSub, if_true, if_false, Bool.false_eq_true, Bool.true_eq_false, Bool.not_true, Bool.not_false, eq_self, true_and, and_true, and_self, Nat.reduceLT, Nat.reduceLeDiff, Bool.and_true, Bool.true_and, Bool.and_false, Bool.false_and, decide_true, decide_false, c1, show hIsi .str [] (eN b.st) (st ++ [(false, .ins 1 [] [])]) = .ok (.bl true) (st ++ [(false, .ins 1 [] [])]) from rfl, s1.in_ (key_N b.st), hst2, c2, sFput, q1, q2, hFput, get_app0, pur_dK, pur_dT, pF, pP, pur_eN, putN, if_neg ne_fs, if_neg ne_fp, if_neg ne_sp, set_app0]
  unfold mkF F_Board___init__ defF
  rw [if_pos (show [T.cell st.length, t, eN b.st, .dT (pk b.ps) (pv b.ps)].length = 4 from rfl)]
  unfold runB
  rw [show startL 6 [T.cell st.length, t, eN b.st, .dT (pk b.ps) (pv b.ps)] = [some (.cell st.length), some t, some (eN b.st), some (.dT (pk b.ps) (pv b.ps)), none, none] from rfl, body]
  simp only [z_ok, trunc, fz]
  rw [show (st ++ [(false, MO.ins 1 [Str.ofString "_fields", Str.ofString "_start", Str.ofString "_prices"] [.dK (fk b.fs) (fv b.fs), eN b.st, .dT (pk b.ps) (pv b.ps)])]).take (st ++ [(false, MO.ins 1 [] [])]).length = st ++ [(false, MO.ins 1 [Str.ofString "_fields", Str.ofString "_start", Str.ofString "_prices"] [.dK (fk b.fs) (fv b.fs), eN b.st, .dT (pk b.ps) (pv b.ps)])] from List.take_of_length_le (by simp)]
  rw [if_neg (Nat.lt_irrefl _), get_app0, List.take_left]
  rfl

theorem fld_fields (b : Bd N) : hFld fnX 1 "_fields" (eB b) st = .ok (.dK (fk b.fs) (fv b.fs)) st := rfl
theorem fld_start (b : Bd N) : hFld fnX 1 "_start" (eB b) st = .ok (eN b.st) st := by
  simp only [hFld, eB, insOf, fnX, if_true, kget, if_neg ne_fs, eN]
theorem fld_prices (b : Bd N) : hFld fnX 1 "_prices" (eB b) st = .ok (.dT (pk b.ps) (pv b.ps)) st := by
  simp only [hFld, eB, insOf, fnX, if_true, kget, if_neg ne_fp, if_neg ne_sp]
theorem ins_B (b : Bd N) (s : Sto) : insOf fnX 1 s (eB b) = some (fnX 1, [.dK (fk b.fs) (fv b.fs), eN b.st, .dT (pk b.ps) (pv b.ps)]) := rfl
theorem f_names (b : Bd N) : F_Board_names [eB b] st = .ok (.lst (b.names.map eN)) st := by
  refine defF_rt0 rfl ?_ (purs_map (fun a => pur_eN (N := N) a) _)
  unfold b_Board_names
  simp only [sSeq, sAsg, sRet, sRetN, sIf, sNext, sBad, sExpr, vVar, vC, v1, v2, v3, vA, vM, aNil, aCons, bOf, bNot, bAnd, bOr, vAnd, vOr, vNot, vIf, bYes, gN, startL, z_ok, z_bad, noX_okE, List.map_cons, List.map_nil, List.length_cons, List.length_nil, List.cons_append, List.nil_append, List.getElem?_cons_zero, List.getElem?_cons_succ, List.set_cons_zero, List.set_cons_succ, List.replicate_succ, List.replicate_zero, Nat.reduceAdd, Nat.reduceSub, if_true, if_false, Bool.false_eq_true, Bool.true_eq_false, Bool.not_true, Bool.not_false, eq_self, true_and, and_true, and_self, Nat.reduceLT, Nat.reduceLeDiff, Bool.and_true, Bool.true_and, Bool.and_false, Bool.false_and, decide_true, decide_false, fld_fields]
  have : orA hList hListD [.dK (fk b.fs) (fv b.fs)] st = .ok (.lst (b.names.map eN)) st := by
    show Z.ok (T.lst ((fk b.fs).map kT)) st = _
    rw [keys_N]
    unfold Bd.names
    rw [List.map_map]
    rfl
  simp only [this, sSeq, sAsg, sRet, sRetN, sIf, sNext, sBad, sExpr, vVar, vC, v1, v2, v3, vA, vM, aNil, aCons, bOf, bNot, bAnd, bOr, vAnd, vOr, vNot, vIf, bYes, gN, startL, z_ok, z_bad, noX_okE, List.map_cons, List.map_nil, List.length_cons, List.length_nil, List.cons_append, List.nil_append, List.getElem?_cons_zero, List.getElem?_cons_succ, List.set_cons_zero, List.set_cons_succ, List.replicate_succ, List.replicate_zero, Nat.reduceAdd, Nat.reduceSub, if_true, if_false, Bool.false_eq_true, Bool.true_eq_false, Bool.not_true, Bool.not_false, eq_self, true_and, and_true, and_self, Nat.reduceLT, Nat.reduceLeDiff, Bool.and_true, Bool.true_and, Bool.and_false, Bool.false_and, decide_true, decide_false]
theorem f_moves (b : Bd N) : F_Board_moves [eB b] st = .ok (.lst (b.moves.map eM)) st := by
  refine defF_rt0 rfl ?_ (purs_map (fun a => pur_eM (N := N) a) _)
  unfold b_Board_moves
  simp only [sSeq, sAsg, sRet, sRetN, sIf, sNext, sBad, sExpr, vVar, vC, v1, v2, v3, vA, vM, aNil, aCons, bOf, bNot, bAnd, bOr, vAnd, vOr, vNot, vIf, bYes, gN, startL, z_ok, z_bad, noX_okE, List.map_cons, List.map_nil, List.length_cons, List.length_nil, List.cons_append, List.nil_append, List.getElem?_cons_zero, List.getElem?_cons_succ, List.set_cons_zero, List.set_cons_succ, List.replicate_succ, List.replicate_zero, Nat.reduceAdd, Nat.reduceSub, if_true, if_false, Bool.false_eq_true, Bool.true_eq_false, Bool.not_true, Bool.not_false, eq_self, true_and, and_true, and_self, Nat.reduceLT, Nat.reduceLeDiff, Bool.and_true, Bool.true_and, Bool.and_false, Bool.false_and, decide_true, decide_false, fld_prices]
  have : orA hList hListD [.dT (pk b.ps) (pv b.ps)] st = .ok (.lst (b.moves.map eM)) st := by
    show Z.ok (T.lst ((pk b.ps).map fun k => .tup (k.map kT))) st = _
    rw [keys_M]
    unfold Bd.moves
    rw [List.map_map]
    rfl
  simp only [this, sSeq, sAsg, sRet, sRetN, sIf, sNext, sBad, sExpr, vVar, vC, v1, v2, v3, vA, vM, aNil, aCons, bOf, bNot, bAnd, bOr, vAnd, vOr, vNot, vIf, bYes, gN, startL, z_ok, z_bad, noX_okE, List.map_cons, List.map_nil, List.length_cons, List.length_nil, List.cons_append, List.nil_append, List.getElem?_cons_zero, List.getElem?_cons_succ, List.set_cons_zero, List.set_cons_succ, List.replicate_succ, List.replicate_zero, Nat.reduceAdd, Nat.reduceSub, if_true, if_false, Bool.false_eq_true, Bool.true_eq_false, Bool.not_true, Bool.not_false, eq_self, true_and, and_true, and_self, Nat.reduceLT, Nat.reduceLeDiff, Bool.and_true, Bool.true_and, Bool.and_false, Bool.false_and, decide_true, decide_false]
theorem p_names (b : Bd N) : hProp fnX 1 F_Board_names (eB b) st = .ok (.lst (b.names.map eN)) st := by
  unfold hProp
  rw [ins_B]
  simp only [f_names, noX_okE]
theorem p_moves (b : Bd N) : hProp fnX 1 F_Board_moves (eB b) st = .ok (.lst (b.moves.map eM)) st := by
  unfold hProp
  rw [ins_B]
  simp only [f_moves, noX_okE]
theorem p_start (b : Bd N) : hProp fnX 1 F_Board_start (eB b) st = .ok (eN b.st) st := by
  unfold hProp
  rw [ins_B]
  have : F_Board_start [eB b] st = .ok (eN b.st) st := defF_rt0 rfl (by
    unfold b_Board_start
    simp only [sSeq, sAsg, sRet, sRetN, sIf, sNext, sBad, sExpr, vVar, vC, v1, v2, v3, vA, vM, aNil, aCons, bOf, bNot, bAnd, bOr, vAnd, vOr, vNot, vIf, bYes, gN, startL, z_ok, z_bad, noX_okE, List.map_cons, List.map_nil, List.length_cons, List.length_nil, List.cons_append, List.nil_append, List.getElem?_cons_zero, List.getElem?_cons_succ, List.set_cons_zero, List.set_cons_succ, List.replicate_succ, List.replicate_zero, Nat.reduceAdd, Nat.reduceSub, if_true, if_false, Bool.false_eq_true, Bool.true_eq_false, Bool.not_true, Bool.not_false, eq_self, true_and, and_true, and_self, Nat.reduceLT, Nat.reduceLeDiff, Bool.and_true, Bool.true_and, Bool.and_false, Bool.false_and, decide_true, decide_false, fld_start]) rfl
  simp only [this, noX_okE]
theorem o_item (b : Bd N) (hn : b.names.Nodup) {p : N.ν × Fd N} (hp : p ∈ b.fs) : hOwn2 fnX 1 F_Board___getitem__ (eB b) (eN p.1) st = .ok (eF p.2) st := by
  have hk := kget_F hn hp
  have : F_Board___getitem__ [eB b, eN p.1] st = .ok (eF p.2) st := by
    refine defF_rt0 rfl ?_ (pur_eF _)
    unfold b_Board___getitem__
    simp only [sSeq, sAsg, sRet, sRetN, sIf, sNext, sBad, sExpr, vVar, vC, v1, v2, v3, vA, vM, aNil, aCons, bOf, bNot, bAnd, bOr, vAnd, vOr, vNot, vIf, bYes, gN, startL, z_ok, z_bad, noX_okE, List.map_cons, List.map_nil, List.length_cons, List.length_nil, List.cons_append, List.nil_append, List.getElem?_cons_zero, List.getElem?_cons_succ, List.set_cons_zero, List.set_cons_succ, List.replicate_succ, List.replicate_zero, Nat.reduceAdd, Nat.reduceSub, if_true, if_false, Bool.false_eq_true, Bool.true_eq_false, Bool.not_true, Bool.not_false, eq_self, true_and, and_true, and_self, Nat.reduceLT, Nat.reduceLeDiff, Bool.and_true, Bool.true_and, Bool.and_false, Bool.false_and, decide_true, decide_false, show hIsi .str [] (eN p.1) st = .ok (.bl true) st from rfl, fld_fields, DV.dK.in_ (key_N p.1), hk, Option.isSome_some, DV.dK.ix (key_N p.1) hk]
  unfold hOwn2
  rw [ins_B]
  exact this
theorem o_itemN (b : Bd N) (hn : b.names.Nodup) {a : N.ν} (ha : a ∈ b.names) : hOwn2 fnX 1 F_Board___getitem__ (eB b) (eN a) st = .ok (eF (b.fld a)) st := by
  obtain ⟨p, hp, e⟩ := List.mem_map.mp ha
  subst e
  rw [o_item st b hn hp, Bd.fld_mem hn hp]
theorem f_bcontains (b : Bd N) (m : Mv N) : F_Board___contains__ [eB b, eM m] st = .ok (.bl (el m b.moves)) st := by
  refine defF_rt0 rfl ?_ rfl
  have e : (kget (pk b.ps) (pv b.ps) (kM m)).isSome = el m b.moves := by
    rw [show kget (pk b.ps) (pv b.ps) (kM m) = _ from kget_M (fun i => T.int i) b.ps m, Option.isSome_map, find_some]
    rfl
  unfold b_Board___contains__
  simp only [sSeq, sAsg, sRet, sRetN, sIf, sNext, sBad, sExpr, vVar, vC, v1, v2, v3, vA, vM, aNil, aCons, bOf, bNot, bAnd, bOr, vAnd, vOr, vNot, vIf, bYes, gN, startL, z_ok, z_bad, noX_okE, List.map_cons, List.map_nil, List.length_cons, List.length_nil, List.cons_append, List.nil_append, List.getElem?_cons_zero, List.getElem?_cons_succ, List.set_cons_zero, List.set_cons_succ, List.replicate_succ, List.replicate_zero, Nat.reduceAdd, Nat.reduceSub, if_true, if_false, Bool.false_eq_true, Bool.true_eq_false, Bool.not_true, Bool.not_false, eq_self, true_and, and_true, and_self, Nat.reduceLT, Nat.reduceLeDiff, Bool.and_true, Bool.true_and, Bool.and_false, Bool.false_and, decide_true, decide_false, f_pair, fld_prices, TV.dT.in_ (keyT_M m), e]
theorem o_bcontains (b : Bd N) (m : Mv N) (p : Bool → Bool) : hInO fnX 1 p F_Board___contains__ (eM m) (eB b) st = .ok (.bl (p (el m b.moves))) st := by
  unfold hInO hOwn2
  rw [ins_B]
  simp only [f_bcontains, blZ, z_ok]
theorem f_check_board (b : Bd N) : F_check_board [eB b] st = .ok .non st := by
  refine defF_nx0 rfl (ρ := [some (eB b)]) ?_
  unfold b_check_board
  simp only [sSeq, sAsg, sRet, sRetN, sIf, sNext, sBad, sExpr, vVar, vC, v1, v2, v3, vA, vM, aNil, aCons, bOf, bNot, bAnd, bOr, vAnd, vOr, vNot, vIf, bYes, gN, startL, z_ok, z_bad, noX_okE, List.map_cons, List.map_nil, List.length_cons, List.length_nil, List.cons_append, List.nil_append, List.getElem?_cons_zero, List.getElem?_cons_succ, List.set_cons_zero, List.set_cons_succ, List.replicate_succ, List.replicate_zero, Nat.reduceAdd, Nat.reduceSub, if_true, if_false, Bool.false_eq_true, Bool.true_eq_false, Bool.not_true, Bool.not_false, eq_self, true_and, and_true, and_self, Nat.reduceLT, Nat.reduceLeDiff, Bool.and_true, Bool.true_and, Bool.and_false, Bool.false_and, decide_true, decide_false, show hIsiC 1 [] (eB b) st = .ok (.bl true) st from rfl]
theorem f_check_set (b : Bd N) {t : T} {F : List (Mv N)} (h : SV t F) (hF : b.set F) (hl : b.ps.length ≤ 6) : F_check_set [eB b, t] st = .ok .non st := by
  have hloop : ∀ (r : List (Mv N)) (o : Option T), (∀ m ∈ r, m ∈ b.moves) → ∃ o', loop (gN 2) b_check_set_1 (r.map eM) [some (eB b), some t, o] st = .ok (.nx [some (eB b), some t, o']) st := by
    intro r
    induction r with
    | nil => exact fun o _ => ⟨o, rfl⟩
    | cons m r ih =>
      intro o hr
      obtain ⟨o', ih⟩ := ih (some (eM m)) fun q hq => hr q (List.mem_cons_of_mem _ hq)
      refine ⟨o', ?_⟩
      rw [List.map_cons, loop_step (ρ2 := [some (eB b), some t, some (eM m)]) (s' := st) rfl ?_, ih]
      unfold b_check_set_1
      simp only [sSeq, sAsg, sRet, sRetN, sIf, sNext, sBad, sExpr, vVar, vC, v1, v2, v3, vA, vM, aNil, aCons, bOf, bNot, bAnd, bOr, vAnd, vOr, vNot, vIf, bYes, gN, startL, z_ok, z_bad, noX_okE, List.map_cons, List.map_nil, List.length_cons, List.length_nil, List.cons_append, List.nil_append, List.getElem?_cons_zero, List.getElem?_cons_succ, List.set_cons_zero, List.set_cons_succ, List.replicate_succ, List.replicate_zero, Nat.reduceAdd, Nat.reduceSub, if_true, if_false, Bool.false_eq_true, Bool.true_eq_false, Bool.not_true, Bool.not_false, eq_self, true_and, and_true, and_self, Nat.reduceLT, Nat.reduceLeDiff, Bool.and_true, Bool.true_and, Bool.and_false, Bool.false_and, decide_true, decide_false, o_bcontains, el_t (hr m (by simp))]
  obtain ⟨o', hlp⟩ := hloop F none hF.1
  have hq : q_check_set_2 [some (eB b), some t, o'] st = .ok (.lst (F.map eM)) st := by
    unfold q_check_set_2
    rw [vLc_go (s := st) (l := b.moves) (enc := eM) (p := fun m => el m F) (h := eM) (by simp only [iSeq, sSeq, sAsg, sRet, sRetN, sIf, sNext, sBad, sExpr, vVar, vC, v1, v2, v3, vA, vM, aNil, aCons, bOf, bNot, bAnd, bOr, vAnd, vOr, vNot, vIf, bYes, gN, startL, z_ok, z_bad, noX_okE, List.map_cons, List.map_nil, List.length_cons, List.length_nil, List.cons_append, List.nil_append, List.getElem?_cons_zero, List.getElem?_cons_succ, List.set_cons_zero, List.set_cons_succ, List.replicate_succ, List.replicate_zero, Nat.reduceAdd, Nat.reduceSub, if_true, if_false, Bool.false_eq_true, Bool.true_eq_false, Bool.not_true, Bool.not_false, eq_self, true_and, and_true, and_self, Nat.reduceLT, Nat.reduceLeDiff, Bool.and_true, Bool.true_and, Bool.and_false, Bool.false_and, decide_true, decide_false, p_moves]) (by unfold Bd.moves; rw [List.length_map]; exact Nat.le_trans hl (by decide)) fun m hm => ⟨_, rfl, by simp only [sSeq, sAsg, sRet, sRetN, sIf, sNext, sBad, sExpr, vVar, vC, v1, v2, v3, vA, vM, aNil, aCons, bOf, bNot, bAnd, bOr, vAnd, vOr, vNot, vIf, bYes, gN, startL, z_ok, z_bad, noX_okE, List.map_cons, List.map_nil, List.length_cons, List.length_nil, List.cons_append, List.nil_append, List.getElem?_cons_zero, List.getElem?_cons_succ, List.set_cons_zero, List.set_cons_succ, List.replicate_succ, List.replicate_zero, Nat.reduceAdd, Nat.reduceSub, if_true, if_false, Bool.false_eq_true, Bool.true_eq_false, Bool.not_true, Bool.not_false, eq_self, true_and, and_true, and_self, Nat.reduceLT, Nat.reduceLeDiff, Bool.and_true, Bool.true_and, Bool.and_false, Bool.false_and, decide_true, decide_false, wipeL, h.in_], fun _ => by simp only [sSeq, sAsg, sRet, sRetN, sIf, sNext, sBad, sExpr, vVar, vC, v1, v2, v3, vA, vM, aNil, aCons, bOf, bNot, bAnd, bOr, vAnd, vOr, vNot, vIf, bYes, gN, startL, z_ok, z_bad, noX_okE, List.map_cons, List.map_nil, List.length_cons, List.length_nil, List.cons_append, List.nil_append, List.getElem?_cons_zero, List.getElem?_cons_succ, List.set_cons_zero, List.set_cons_succ, List.replicate_succ, List.replicate_zero, Nat.reduceAdd, Nat.reduceSub, if_true, if_false, Bool.false_eq_true, Bool.true_eq_false, Bool.not_true, Bool.not_false, eq_self, true_and, and_true, and_self, Nat.reduceLT, Nat.reduceLeDiff, Bool.and_true, Bool.true_and, Bool.and_false, Bool.false_and, decide_true, decide_false, wipeL]⟩, ← hF.2]
  have he : hEqF false (.lst (F.map eM)) (.lst (F.map eM)) st = .ok (.bl false) st := by
    have := neT_enc (α := List (Mv N)) F F st (show max 0 0 + 1 + 1 ≤ 60 by decide)
    rw [decide_eq_true rfl] at this
    exact this
  refine defF_nx0 rfl (ρ := [some (eB b), some t, o']) ?_
  have hls : orA hList hListD [t] st = .ok (.lst (F.map eM)) st := by
    unfold orA hList
    simp only [h.al, h.tu, zOr]
  have hty : hIsi .tuple [] t st = .ok (.bl true) st := by
    unfold hIsi
    simp only [h.kd, kitT]
  unfold b_check_set
  simp only [sSeq, sAsg, sRet, sRetN, sIf, sNext, sBad, sExpr, vVar, vC, v1, v2, v3, vA, vM, aNil, aCons, bOf, bNot, bAnd, bOr, vAnd, vOr, vNot, vIf, bYes, gN, startL, z_ok, z_bad, noX_okE, List.map_cons, List.map_nil, List.length_cons, List.length_nil, List.cons_append, List.nil_append, List.getElem?_cons_zero, List.getElem?_cons_succ, List.set_cons_zero, List.set_cons_succ, List.replicate_succ, List.replicate_zero, Nat.reduceAdd, Nat.reduceSub, if_true, if_false, Bool.false_eq_true, Bool.true_eq_false, Bool.not_true, Bool.not_false, eq_self, true_and, and_true, and_self, Nat.reduceLT, Nat.reduceLeDiff, Bool.and_true, Bool.true_and, Bool.and_false, Bool.false_and, decide_true, decide_false, hty, sFor, iTupF, h.tu, hlp, hls, hq, he]
theorem f_steps_from (b : Bd N) (hn : b.names.Nodup) (hl : b.fs.length ≤ 8) {t : T} {F : List (Mv N)} (h : SV t F) {a : N.ν} (ha : a ∈ b.names) : F_steps_from [eB b, eN a, t] st = .ok (.lst ((b.steps F a).map eN)) st := by
  refine defF_rt0 rfl ?_ (purs_map (fun a => pur_eN (N := N) a) _)
  have hq : q_steps_from_1 [some (eB b), some (eN a), some t, some (eF (b.fld a)), none] st = .ok (.lst ((b.steps F a).map eN)) st := by
    unfold q_steps_from_1
    rw [vLc_go (s := st) (l := b.names) (enc := eN) (p := fun x => el x (b.fld a).tg && !el (a, x) F) (h := eN) (by simp only [iSeq, sSeq, sAsg, sRet, sRetN, sIf, sNext, sBad, sExpr, vVar, vC, v1, v2, v3, vA, vM, aNil, aCons, bOf, bNot, bAnd, bOr, vAnd, vOr, vNot, vIf, bYes, gN, startL, z_ok, z_bad, noX_okE, List.map_cons, List.map_nil, List.length_cons, List.length_nil, List.cons_append, List.nil_append, List.getElem?_cons_zero, List.getElem?_cons_succ, List.set_cons_zero, List.set_cons_succ, List.replicate_succ, List.replicate_zero, Nat.reduceAdd, Nat.reduceSub, if_true, if_false, Bool.false_eq_true, Bool.true_eq_false, Bool.not_true, Bool.not_false, eq_self, true_and, and_true, and_self, Nat.reduceLT, Nat.reduceLeDiff, Bool.and_true, Bool.true_and, Bool.and_false, Bool.false_and, decide_true, decide_false, p_names]) (by unfold Bd.names; rw [List.length_map]; exact Nat.le_trans hl (by decide)) fun x hx => ⟨_, rfl, ?_, fun _ => by simp only [sSeq, sAsg, sRet, sRetN, sIf, sNext, sBad, sExpr, vVar, vC, v1, v2, v3, vA, vM, aNil, aCons, bOf, bNot, bAnd, bOr, vAnd, vOr, vNot, vIf, bYes, gN, startL, z_ok, z_bad, noX_okE, List.map_cons, List.map_nil, List.length_cons, List.length_nil, List.cons_append, List.nil_append, List.getElem?_cons_zero, List.getElem?_cons_succ, List.set_cons_zero, List.set_cons_succ, List.replicate_succ, List.replicate_zero, Nat.reduceAdd, Nat.reduceSub, if_true, if_false, Bool.false_eq_true, Bool.true_eq_false, Bool.not_true, Bool.not_false, eq_self, true_and, and_true, and_self, Nat.reduceLT, Nat.reduceLeDiff, Bool.and_true, Bool.true_and, Bool.and_false, Bool.false_and, decide_true, decide_false, wipeL]⟩]
    · rfl
    · have hin := h.in_ (a, x) st false
      unfold eM at hin
      simp only [sSeq, sAsg, sRet, sRetN, sIf, sNext, sBad, sExpr, vVar, vC, v1, v2, v3, vA, vM, aNil, aCons, bOf, bNot, bAnd, bOr, vAnd, vOr, vNot, vIf, bYes, gN, startL, z_ok, z_bad, noX_okE, List.map_cons, List.map_nil, List.length_cons, List.length_nil, List.cons_append, List.nil_append, List.getElem?_cons_zero, List.getElem?_cons_succ, List.set_cons_zero, List.set_cons_succ, List.replicate_succ, List.replicate_zero, Nat.reduceAdd, Nat.reduceSub, if_true, if_false, Bool.false_eq_true, Bool.true_eq_false, Bool.not_true, Bool.not_false, eq_self, true_and, and_true, and_self, Nat.reduceLT, Nat.reduceLeDiff, Bool.and_true, Bool.true_and, Bool.and_false, Bool.false_and, decide_true, decide_false, wipeL, o_contains, hTup, if_pos lim2, hin]
      cases el x (b.fld a).tg <;> simp
  unfold b_steps_from
  simp only [sSeq, sAsg, sRet, sRetN, sIf, sNext, sBad, sExpr, vVar, vC, v1, v2, v3, vA, vM, aNil, aCons, bOf, bNot, bAnd, bOr, vAnd, vOr, vNot, vIf, bYes, gN, startL, z_ok, z_bad, noX_okE, List.map_cons, List.map_nil, List.length_cons, List.length_nil, List.cons_append, List.nil_append, List.getElem?_cons_zero, List.getElem?_cons_succ, List.set_cons_zero, List.set_cons_succ, List.replicate_succ, List.replicate_zero, Nat.reduceAdd, Nat.reduceSub, if_true, if_false, Bool.false_eq_true, Bool.true_eq_false, Bool.not_true, Bool.not_false, eq_self, true_and, and_true, and_self, Nat.reduceLT, Nat.reduceLeDiff, Bool.and_true, Bool.true_and, Bool.and_false, Bool.false_and, decide_true, decide_false, o_itemN _ b hn ha, hq]
theorem f_is_forced (f : Fd N) (l : List Bool) : F_is_forced [eF f, .lst (l.map T.bl)] st = .ok (.bl (forced f l)) st := by
  refine defF_rt0 rfl ?_ rfl
  unfold b_is_forced forced
  cases hg : f.go with
  | true => simp only [sSeq, sAsg, sRet, sRetN, sIf, sNext, sBad, sExpr, vVar, vC, v1, v2, v3, vA, vM, aNil, aCons, bOf, bNot, bAnd, bOr, vAnd, vOr, vNot, vIf, bYes, gN, startL, z_ok, z_bad, noX_okE, List.map_cons, List.map_nil, List.length_cons, List.length_nil, List.cons_append, List.nil_append, List.getElem?_cons_zero, List.getElem?_cons_succ, List.set_cons_zero, List.set_cons_succ, List.replicate_succ, List.replicate_zero, Nat.reduceAdd, Nat.reduceSub, if_true, if_false, Bool.false_eq_true, Bool.true_eq_false, Bool.not_true, Bool.not_false, eq_self, true_and, and_true, and_self, Nat.reduceLT, Nat.reduceLeDiff, Bool.and_true, Bool.true_and, Bool.and_false, Bool.false_and, decide_true, decide_false, p_goal, hg, Bool.true_or]
  | false =>
    by_cases ho : f.ow = 1
    · simp only [sSeq, sAsg, sRet, sRetN, sIf, sNext, sBad, sExpr, vVar, vC, v1, v2, v3, vA, vM, aNil, aCons, bOf, bNot, bAnd, bOr, vAnd, vOr, vNot, vIf, bYes, gN, startL, z_ok, z_bad, noX_okE, List.map_cons, List.map_nil, List.length_cons, List.length_nil, List.cons_append, List.nil_append, List.getElem?_cons_zero, List.getElem?_cons_succ, List.set_cons_zero, List.set_cons_succ, List.replicate_succ, List.replicate_zero, Nat.reduceAdd, Nat.reduceSub, if_true, if_false, Bool.false_eq_true, Bool.true_eq_false, Bool.not_true, Bool.not_false, eq_self, true_and, and_true, and_self, Nat.reduceLT, Nat.reduceLeDiff, Bool.and_true, Bool.true_and, Bool.and_false, Bool.false_and, decide_true, decide_false, p_goal, hg, p_owner, eq_int, ho, all_lst, Bool.false_or]
    · simp only [sSeq, sAsg, sRet, sRetN, sIf, sNext, sBad, sExpr, vVar, vC, v1, v2, v3, vA, vM, aNil, aCons, bOf, bNot, bAnd, bOr, vAnd, vOr, vNot, vIf, bYes, gN, startL, z_ok, z_bad, noX_okE, List.map_cons, List.map_nil, List.length_cons, List.length_nil, List.cons_append, List.nil_append, List.getElem?_cons_zero, List.getElem?_cons_succ, List.set_cons_zero, List.set_cons_succ, List.replicate_succ, List.replicate_zero, Nat.reduceAdd, Nat.reduceSub, if_true, if_false, Bool.false_eq_true, Bool.true_eq_false, Bool.not_true, Bool.not_false, eq_self, true_and, and_true, and_self, Nat.reduceLT, Nat.reduceLeDiff, Bool.and_true, Bool.true_and, Bool.and_false, Bool.false_and, decide_true, decide_false, p_goal, hg, p_owner, eq_int, decide_eq_false ho, all_lst, Bool.false_or, if_neg ho]

/-! distances -/
abbrev gk (f : Fnd N) : List Key := f.map fun p => kN p.1
abbrev gv (f : Fnd N) : List T := f.map fun p => .int p.2
theorem kget_G (f : Fnd N) (a : N.ν) : kget (gk f) (gv f) (kN a) = (f.get a).map T.int := by
  rw [show kget (gk f) (gv f) (kN a) = _ from kget_N (fun i => T.int i) f a]
  unfold Fnd.get
  rw [Option.map_map]
  rfl
theorem kget_has (f : Fnd N) (a : N.ν) : (kget (gk f) (gv f) (kN a)).isSome = f.has a := by
  rw [show kget (gk f) (gv f) (kN a) = _ from kget_N (fun i => T.int i) f a, Option.isSome_map, find_some]
  rfl
theorem f_is_won_by (fl : Fd N) (l : List N.ν) (hl : l.length ≤ 100) (f : Fnd N) {t : T} (h : DV st t (gk f) (gv f)) : F_is_won_by [eF fl, .lst (l.map eN), t] st = .ok (.bl (forced fl (l.map f.has))) st := by
  refine defF_rt0 rfl ?_ rfl
  have hq : q_is_won_by_1 [some (eF fl), some (.lst (l.map eN)), some t, none] st = .ok (.lst ((l.map f.has).map T.bl)) st := by
    unfold q_is_won_by_1
    rw [vLc_goA (s := st) (l := l) (enc := eN) (h := fun a => T.bl (f.has a)) (by simp only [iSeq, sSeq, sAsg, sRet, sRetN, sIf, sNext, sBad, sExpr, vVar, vC, v1, v2, v3, vA, vM, aNil, aCons, bOf, bNot, bAnd, bOr, vAnd, vOr, vNot, vIf, bYes, gN, startL, z_ok, z_bad, noX_okE, List.map_cons, List.map_nil, List.length_cons, List.length_nil, List.cons_append, List.nil_append, List.getElem?_cons_zero, List.getElem?_cons_succ, List.set_cons_zero, List.set_cons_succ, List.replicate_succ, List.replicate_zero, Nat.reduceAdd, Nat.reduceSub, if_true, if_false, Bool.false_eq_true, Bool.true_eq_false, Bool.not_true, Bool.not_false, eq_self, true_and, and_true, and_self, Nat.reduceLT, Nat.reduceLeDiff, Bool.and_true, Bool.true_and, Bool.and_false, Bool.false_and, decide_true, decide_false]) (Nat.le_trans hl (by decide)) fun a ha => ⟨_, rfl, by simp only [sSeq, sAsg, sRet, sRetN, sIf, sNext, sBad, sExpr, vVar, vC, v1, v2, v3, vA, vM, aNil, aCons, bOf, bNot, bAnd, bOr, vAnd, vOr, vNot, vIf, bYes, gN, startL, z_ok, z_bad, noX_okE, List.map_cons, List.map_nil, List.length_cons, List.length_nil, List.cons_append, List.nil_append, List.getElem?_cons_zero, List.getElem?_cons_succ, List.set_cons_zero, List.set_cons_succ, List.replicate_succ, List.replicate_zero, Nat.reduceAdd, Nat.reduceSub, if_true, if_false, Bool.false_eq_true, Bool.true_eq_false, Bool.not_true, Bool.not_false, eq_self, true_and, and_true, and_self, Nat.reduceLT, Nat.reduceLeDiff, Bool.and_true, Bool.true_and, Bool.and_false, Bool.false_and, decide_true, decide_false, wipeL, h.in_ (key_N a), kget_has]⟩, List.map_map]
    rfl
  unfold b_is_won_by
  simp only [sSeq, sAsg, sRet, sRetN, sIf, sNext, sBad, sExpr, vVar, vC, v1, v2, v3, vA, vM, aNil, aCons, bOf, bNot, bAnd, bOr, vAnd, vOr, vNot, vIf, bYes, gN, startL, z_ok, z_bad, noX_okE, List.map_cons, List.map_nil, List.length_cons, List.length_nil, List.cons_append, List.nil_append, List.getElem?_cons_zero, List.getElem?_cons_succ, List.set_cons_zero, List.set_cons_succ, List.replicate_succ, List.replicate_zero, Nat.reduceAdd, Nat.reduceSub, if_true, if_false, Bool.false_eq_true, Bool.true_eq_false, Bool.not_true, Bool.not_false, eq_self, true_and, and_true, and_self, Nat.reduceLT, Nat.reduceLeDiff, Bool.and_true, Bool.true_and, Bool.and_false, Bool.false_and, decide_true, decide_false, hq, f_is_forced]
theorem steps_len (b : Bd N) (hl : b.fs.length ≤ 8) (F : List (Mv N)) (a : N.ν) : (b.steps F a).length ≤ 100 := by
  unfold Bd.steps Bd.names
  refine Nat.le_trans (List.length_filter_le _ _) ?_
  rw [List.length_map]
  omega
/-- the dict of the steps -/
def eSt (b : Bd N) (F : List (Mv N)) : T := .dK (b.names.map kN) (b.names.map fun a => .lst ((b.steps F a).map eN))
theorem kget_names {l : List N.ν} (g : N.ν → T) {a : N.ν} (h : a ∈ l) : kget (l.map kN) (l.map g) (kN a) = some (g a) := by
  induction l with
  | nil => exact nomatch h
  | cons c l ih =>
    rw [List.map_cons, List.map_cons]
    unfold kget
    by_cases e : c = a
    · subst e; rw [if_pos rfl]
    · rw [if_neg (fun z => e (kN_inj.mp z))]
      exact ih ((List.mem_cons.mp h).resolve_left fun z => e z.symm)
theorem kget_S (b : Bd N) (F : List (Mv N)) {a : N.ν} (ha : a ∈ b.names) : kget (b.names.map kN) (b.names.map fun a => T.lst ((b.steps F a).map eN)) (kN a) = some (.lst ((b.steps F a).map eN)) := by
  have : ∀ l : List N.ν, a ∈ l → kget (l.map kN) (l.map fun a => T.lst ((b.steps F a).map eN)) (kN a) = some (.lst ((b.steps F a).map eN)) := by
    intro l
    induction l with
    | nil => exact fun h => nomatch h
    | cons c l ih =>
      intro h
      rw [List.map_cons, List.map_cons]
      unfold kget
      by_cases e : c = a
      · subst e; rw [if_pos rfl]
      · rw [if_neg (fun z => e (kN_inj.mp z))]
        exact ih ((List.mem_cons.mp h).resolve_left fun z => e z.symm)
  exact this _ ha
theorem l_put (b : Bd N) (t : T) (F : List (Mv N)) (i : Int) (w : T) (hl : ∀ f : Fnd N, (f.map (·.1)).Nodup → (∀ a ∈ f.map (·.1), a ∈ b.names) → f.length ≤ 8) : ∀ (r : List N.ν) (f : Fnd N) (o : Option T), ((f.map (·.1)) ++ r).Nodup → (∀ a ∈ f.map (·.1) ++ r, a ∈ b.names) →
    ∃ o', loop (gN 6) b_distances_3 (r.map eN) [some (eB b), some t, some (eSt b F), some (.cell st.length), some (.int i), some w, o] (st ++ [(false, .dK (gk f) (gv f))]) = .ok (.nx [some (eB b), some t, some (eSt b F), some (.cell st.length), some (.int i), some w, o']) (st ++ [(false, .dK (gk (f ++ r.map fun a => (a, i))) (gv (f ++ r.map fun a => (a, i))))])
  | [], f, o, _, _ => ⟨o, by rw [List.map_nil, List.map_nil, List.append_nil]; rfl⟩
  | a :: r, f, o, hn, hs => by
    have e1 : (f ++ [(a, i)]).map (·.1) = f.map (·.1) ++ [a] := by simp
    obtain ⟨o', ih⟩ := l_put b t F i w hl r (f ++ [(a, i)]) (some (eN a)) (by rw [e1, List.append_assoc]; exact hn) (by rw [e1, List.append_assoc]; exact hs)
    refine ⟨o', ?_⟩
    have na : a ∉ f.map (·.1) := fun z => by
      rw [List.nodup_append] at hn
      exact hn.2.2 a z a (by simp) rfl
    have nk : kN a ∉ gk f := fun z => by
      obtain ⟨p, hp, e⟩ := List.mem_map.mp z
      exact na (List.mem_map.mpr ⟨p, hp, kN_inj.mp e⟩)
    have hf := hl f (List.nodup_append.mp hn).1 fun c hc => hs c (List.mem_append_left _ hc)
    have hl2 : (gk f).length < lim := by
      rw [List.length_map]
      exact Nat.lt_of_le_of_lt hf (by decide)
    have hb : b_distances_3 [some (eB b), some t, some (eSt b F), some (.cell st.length), some (.int i), some w, some (eN a)] (st ++ [(false, .dK (gk f) (gv f))]) = .ok (.nx [some (eB b), some t, some (eSt b F), some (.cell st.length), some (.int i), some w, some (eN a)]) (st ++ [(false, .dK (gk (f ++ [(a, i)])) (gv (f ++ [(a, i)])))]) := by
      unfold b_distances_3
      simp only [sSeq, sAsg, sRet, sRetN, sIf, sNext, sBad, sExpr, vVar, vC, v1, v2, v3, vA, vM, aNil, aCons, bOf, bNot, bAnd, bOr, vAnd, vOr, vNot, vIf, bYes, gN, startL, z_ok, z_bad, noX_okE, List.map_cons, List.map_nil, List.length_cons, List.length_nil, List.cons_append, List.nil_append, List.getElem?_cons_zero, List.getElem?_cons_succ, List.set_cons_zero, List.set_cons_succ, List.replicate_succ, List.replicate_zero, Nat.reduceAdd, Nat.reduceSub, if_true, if_false, Bool.false_eq_true, Bool.true_eq_false, Bool.not_true, Bool.not_false, eq_self, true_and, and_true, and_self, Nat.reduceLT, Nat.reduceLeDiff, Bool.and_true, Bool.true_and, Bool.and_false, Bool.false_and, decide_true, decide_false, sPut, hPut, get_app0, pur_int, key_N, if_pos hl2, kput, if_neg nk, set_app0, List.map_append]
    rw [List.map_cons, loop_step rfl hb, ih, List.append_assoc]
    rfl
theorem f_distances (b : Bd N) (hb : b.Ok) {t : T} {F : List (Mv N)} (h : SV t F) (hF : b.set F) : F_distances [eB b, t] st = .ok (.dK (b.names.map kN) (b.names.map fun a => eO (b.dist F a))) st := by
  have hn := hb.nod
  have hl8 : b.names.length ≤ 8 := by unfold Bd.names; rw [List.length_map]; exact hb.few
  have hq1 : ∀ o3 o4 o5 o6 o7, q_distances_1 [some (eB b), some t, o3, o4, o5, o6, o7] st = .ok (eSt b F) st := fun o3 o4 o5 o6 o7 => by
    unfold q_distances_1
    rw [vDc_go (s := st) (l := b.names) (enc := eN) (kt := eN) (val := fun a => .lst ((b.steps F a).map eN)) (kf := kN) (p := fun _ => true) key_N (by simp only [iSeq, sSeq, sAsg, sRet, sRetN, sIf, sNext, sBad, sExpr, vVar, vC, v1, v2, v3, vA, vM, aNil, aCons, bOf, bNot, bAnd, bOr, vAnd, vOr, vNot, vIf, bYes, gN, startL, z_ok, z_bad, noX_okE, List.map_cons, List.map_nil, List.length_cons, List.length_nil, List.cons_append, List.nil_append, List.getElem?_cons_zero, List.getElem?_cons_succ, List.set_cons_zero, List.set_cons_succ, List.replicate_succ, List.replicate_zero, Nat.reduceAdd, Nat.reduceSub, if_true, if_false, Bool.false_eq_true, Bool.true_eq_false, Bool.not_true, Bool.not_false, eq_self, true_and, and_true, and_self, Nat.reduceLT, Nat.reduceLeDiff, Bool.and_true, Bool.true_and, Bool.and_false, Bool.false_and, decide_true, decide_false, p_names]) (by rw [List.filter_eq_self.mpr (fun _ _ => rfl)]; exact nodup_mapI (fun a b => kN_inj.mp) hn) (Nat.le_trans hl8 (by decide)) fun a ha => ⟨_, rfl, rfl, fun _ => ⟨by simp only [sSeq, sAsg, sRet, sRetN, sIf, sNext, sBad, sExpr, vVar, vC, v1, v2, v3, vA, vM, aNil, aCons, bOf, bNot, bAnd, bOr, vAnd, vOr, vNot, vIf, bYes, gN, startL, z_ok, z_bad, noX_okE, List.map_cons, List.map_nil, List.length_cons, List.length_nil, List.cons_append, List.nil_append, List.getElem?_cons_zero, List.getElem?_cons_succ, List.set_cons_zero, List.set_cons_succ, List.replicate_succ, List.replicate_zero, Nat.reduceAdd, Nat.reduceSub, if_true, if_false, Bool.false_eq_true, Bool.true_eq_false, Bool.not_true, Bool.not_false, eq_self, true_and, and_true, and_self, Nat.reduceLT, Nat.reduceLeDiff, Bool.and_true, Bool.true_and, Bool.and_false, Bool.false_and, decide_true, decide_false, wipeL], by simp only [sSeq, sAsg, sRet, sRetN, sIf, sNext, sBad, sExpr, vVar, vC, v1, v2, v3, vA, vM, aNil, aCons, bOf, bNot, bAnd, bOr, vAnd, vOr, vNot, vIf, bYes, gN, startL, z_ok, z_bad, noX_okE, List.map_cons, List.map_nil, List.length_cons, List.length_nil, List.cons_append, List.nil_append, List.getElem?_cons_zero, List.getElem?_cons_succ, List.set_cons_zero, List.set_cons_succ, List.replicate_succ, List.replicate_zero, Nat.reduceAdd, Nat.reduceSub, if_true, if_false, Bool.false_eq_true, Bool.true_eq_false, Bool.not_true, Bool.not_false, eq_self, true_and, and_true, and_self, Nat.reduceLT, Nat.reduceLeDiff, Bool.and_true, Bool.true_and, Bool.and_false, Bool.false_and, decide_true, decide_false, wipeL, f_steps_from _ b hn hb.few h ha]⟩⟩]
    rw [List.filter_eq_self.mpr (fun _ _ => rfl)]
    rfl
  have kS : ∀ s : Sto, dictKeys s (eSt b F) = some (b.names.map eN) := fun s => by
    show some ((b.names.map kN).map kT) = _
    rw [List.map_map]
    rfl
  have small : ∀ f : Fnd N, (f.map (·.1)).Nodup → (∀ a ∈ f.map (·.1), a ∈ b.names) → f.length ≤ 8 := fun f h1 h2 => by
    have := nodup_len h1 h2
    rw [List.length_map] at this
    omega
  have sub : ∀ i, ∀ a ∈ (b.fnd F i).map (·.1), a ∈ b.names := by
    intro i
    induction i with
    | zero => exact fun a h => nomatch h
    | succ i ih =>
      intro a ha
      rw [show b.fnd F (i + 1) = b.fnd F i ++ (b.late F (b.fnd F i)).map fun a => (a, (i : Int)) from rfl, List.map_append, List.mem_append] at ha
      rcases ha with ha | ha
      · exact ih a ha
      · rw [List.map_map] at ha
        obtain ⟨c, hc, rfl⟩ := List.mem_map.mp ha
        unfold Bd.late at hc
        exact (List.mem_filter.mp hc).1
  have hq2 : ∀ (f : Fnd N) (o4 o5 o6 : Option T), q_distances_2 [some (eB b), some t, some (eSt b F), some (.cell st.length), o4, o5, o6] (st ++ [(false, .dK (gk f) (gv f))]) = .ok (.lst ((b.late F f).map eN)) (st ++ [(false, .dK (gk f) (gv f))]) := fun f o4 o5 o6 => by
    have hv : DV (st ++ [(false, .dK (gk f) (gv f))]) (.cell st.length) (gk f) (gv f) := .cell (b := false) (by rw [get_app0]; rfl)
    unfold q_distances_2
    rw [vLcD_go (t := eSt b F) (l := b.names) (enc := eN) (p := fun a => !f.has a && forced (b.fld a) ((b.steps F a).map f.has)) (h := eN) rfl (kS _) rfl (Nat.le_trans hl8 (by decide)) fun a ha => ⟨_, rfl, ?_, fun _ => by simp only [sSeq, sAsg, sRet, sRetN, sIf, sNext, sBad, sExpr, vVar, vC, v1, v2, v3, vA, vM, aNil, aCons, bOf, bNot, bAnd, bOr, vAnd, vOr, vNot, vIf, bYes, gN, startL, z_ok, z_bad, noX_okE, List.map_cons, List.map_nil, List.length_cons, List.length_nil, List.cons_append, List.nil_append, List.getElem?_cons_zero, List.getElem?_cons_succ, List.set_cons_zero, List.set_cons_succ, List.replicate_succ, List.replicate_zero, Nat.reduceAdd, Nat.reduceSub, if_true, if_false, Bool.false_eq_true, Bool.true_eq_false, Bool.not_true, Bool.not_false, eq_self, true_and, and_true, and_self, Nat.reduceLT, Nat.reduceLeDiff, Bool.and_true, Bool.true_and, Bool.and_false, Bool.false_and, decide_true, decide_false, wipeL]⟩]
    · rfl
    · rw [show lockT (eSt b F) (st ++ [(false, .dK (gk f) (gv f))]) = st ++ [(false, .dK (gk f) (gv f))] from rfl]
      have hs : hIx (eSt b F) (eN a) (st ++ [(false, .dK (gk f) (gv f))]) = .ok (.lst ((b.steps F a).map eN)) (st ++ [(false, .dK (gk f) (gv f))]) := DV.dK.ix (key_N a) (kget_S b F ha)
      simp only [sSeq, sAsg, sRet, sRetN, sIf, sNext, sBad, sExpr, vVar, vC, v1, v2, v3, vA, vM, aNil, aCons, bOf, bNot, bAnd, bOr, vAnd, vOr, vNot, vIf, bYes, gN, startL, z_ok, z_bad, noX_okE, List.map_cons, List.map_nil, List.length_cons, List.length_nil, List.cons_append, List.nil_append, List.getElem?_cons_zero, List.getElem?_cons_succ, List.set_cons_zero, List.set_cons_succ, List.replicate_succ, List.replicate_zero, Nat.reduceAdd, Nat.reduceSub, if_true, if_false, Bool.false_eq_true, Bool.true_eq_false, Bool.not_true, Bool.not_false, eq_self, true_and, and_true, and_self, Nat.reduceLT, Nat.reduceLeDiff, Bool.and_true, Bool.true_and, Bool.and_false, Bool.false_and, decide_true, decide_false, wipeL, hv.in_ (key_N a), kget_has, o_itemN _ b hn ha, hs, f_is_won_by _ _ _ (steps_len b hb.few F a) f hv]
      cases f.has a <;> simp
  have hloop : ∀ (k i : Nat) (o4 o5 o6 : Option T), ∃ o4' o5' o6', loop (gN 4) b_distances_4 (rngT (i : Int) k) [some (eB b), some t, some (eSt b F), some (.cell st.length), o4, o5, o6] (st ++ [(false, .dK (gk (b.fnd F i)) (gv (b.fnd F i)))]) = .ok (.nx [some (eB b), some t, some (eSt b F), some (.cell st.length), o4', o5', o6']) (st ++ [(false, .dK (gk (b.fnd F (i + k))) (gv (b.fnd F (i + k))))]) := by
    intro k
    induction k with
    | zero => exact fun i o4 o5 o6 => ⟨o4, o5, o6, rfl⟩
    | succ k ih =>
      intro i o4 o5 o6
      have nd := fnd_nodup hn F (i + 1)
      have sb := sub (i + 1)
      have e0 : ((b.fnd F i).map (·.1)) ++ b.late F (b.fnd F i) = (b.fnd F (i + 1)).map (·.1) := by
        rw [show b.fnd F (i + 1) = b.fnd F i ++ (b.late F (b.fnd F i)).map fun a => (a, (i : Int)) from rfl, List.map_append, List.map_map]
        rw [show ((fun x : N.ν × Int => x.1) ∘ fun a => (a, (i : Int))) = id from rfl, List.map_id]
      rw [← e0] at nd sb
      obtain ⟨o', hp⟩ := l_put st b t F i (.lst ((b.late F (b.fnd F i)).map eN)) small (b.late F (b.fnd F i)) (b.fnd F i) o6 nd sb
      obtain ⟨o4', o5', o6', ih⟩ := ih (i + 1) (some (.int i)) (some (.lst ((b.late F (b.fnd F i)).map eN))) o'
      refine ⟨o4', o5', o6', ?_⟩
      have hb : b_distances_4 [some (eB b), some t, some (eSt b F), some (.cell st.length), some (.int i), o5, o6] (st ++ [(false, .dK (gk (b.fnd F i)) (gv (b.fnd F i)))]) = .ok (.nx [some (eB b), some t, some (eSt b F), some (.cell st.length), some (.int i), some (.lst ((b.late F (b.fnd F i)).map eN)), o']) (st ++ [(false, .dK (gk (b.fnd F (i + 1))) (gv (b.fnd F (i + 1))))]) := by
        unfold b_distances_4
        simp only [sSeq, sAsg, sRet, sRetN, sIf, sNext, sBad, sExpr, vVar, vC, v1, v2, v3, vA, vM, aNil, aCons, bOf, bNot, bAnd, bOr, vAnd, vOr, vNot, vIf, bYes, gN, startL, z_ok, z_bad, noX_okE, List.map_cons, List.map_nil, List.length_cons, List.length_nil, List.cons_append, List.nil_append, List.getElem?_cons_zero, List.getElem?_cons_succ, List.set_cons_zero, List.set_cons_succ, List.replicate_succ, List.replicate_zero, Nat.reduceAdd, Nat.reduceSub, if_true, if_false, Bool.false_eq_true, Bool.true_eq_false, Bool.not_true, Bool.not_false, eq_self, true_and, and_true, and_self, Nat.reduceLT, Nat.reduceLeDiff, Bool.and_true, Bool.true_and, Bool.and_false, Bool.false_and, decide_true, decide_false, hq2, sFor, iSeq, hp]
        rfl
      unfold rngT
      rw [loop_step rfl hb, show (i : Int) + 1 = ((i + 1 : Nat) : Int) from rfl, ih, show i + 1 + k = i + (k + 1) by omega]
  have hq5 : ∀ o4 o5 o6, q_distances_5 [some (eB b), some t, some (eSt b F), some (.cell st.length), o4, o5, o6] (st ++ [(false, .dK (gk (b.fnd F b.fs.length)) (gv (b.fnd F b.fs.length)))]) = .ok (.dK (b.names.map kN) (b.names.map fun a => eO (b.dist F a))) (st ++ [(false, .dK (gk (b.fnd F b.fs.length)) (gv (b.fnd F b.fs.length)))]) := fun o4 o5 o6 => by
    have hv : DV (st ++ [(false, .dK (gk (b.fnd F b.fs.length)) (gv (b.fnd F b.fs.length)))]) (.cell st.length) (gk (b.fnd F b.fs.length)) (gv (b.fnd F b.fs.length)) := .cell (b := false) (by rw [get_app0]; rfl)
    unfold q_distances_5
    rw [vDcD_go (t := eSt b F) (l := b.names) (enc := eN) (kt := eN) (val := fun a => eO (b.dist F a)) (kf := kN) (p := fun _ => true) key_N rfl (kS _) rfl (by rw [List.filter_eq_self.mpr (fun _ _ => rfl)]; exact nodup_mapI (fun a b => kN_inj.mp) hn) (Nat.le_trans hl8 (by decide)) fun a ha => ⟨_, rfl, rfl, fun _ => ⟨by simp only [sSeq, sAsg, sRet, sRetN, sIf, sNext, sBad, sExpr, vVar, vC, v1, v2, v3, vA, vM, aNil, aCons, bOf, bNot, bAnd, bOr, vAnd, vOr, vNot, vIf, bYes, gN, startL, z_ok, z_bad, noX_okE, List.map_cons, List.map_nil, List.length_cons, List.length_nil, List.cons_append, List.nil_append, List.getElem?_cons_zero, List.getElem?_cons_succ, List.set_cons_zero, List.set_cons_succ, List.replicate_succ, List.replicate_zero, Nat.reduceAdd, Nat.reduceSub, if_true, if_false, Bool.false_eq_true, Bool.true_eq_false, Bool.not_true, Bool.not_false, eq_self, true_and, and_true, and_self, Nat.reduceLT, Nat.reduceLeDiff, Bool.and_true, Bool.true_and, Bool.and_false, Bool.false_and, decide_true, decide_false, wipeL], ?_⟩⟩]
    · rw [List.filter_eq_self.mpr (fun _ _ => rfl)]
    · rw [show lockT (eSt b F) (st ++ [(false, MO.dK (gk (b.fnd F b.fs.length)) (gv (b.fnd F b.fs.length)))]) = st ++ [(false, .dK (gk (b.fnd F b.fs.length)) (gv (b.fnd F b.fs.length)))] from rfl]
      have hd : isD (st ++ [(false, MO.dK (gk (b.fnd F b.fs.length)) (gv (b.fnd F b.fs.length)))]) (.cell st.length) = true := by
        unfold isD
        rw [hv.dk]
        rfl
      simp only [sSeq, sAsg, sRet, sRetN, sIf, sNext, sBad, sExpr, vVar, vC, v1, v2, v3, vA, vM, aNil, aCons, bOf, bNot, bAnd, bOr, vAnd, vOr, vNot, vIf, bYes, gN, startL, z_ok, z_bad, noX_okE, List.map_cons, List.map_nil, List.length_cons, List.length_nil, List.cons_append, List.nil_append, List.getElem?_cons_zero, List.getElem?_cons_succ, List.set_cons_zero, List.set_cons_succ, List.replicate_succ, List.replicate_zero, Nat.reduceAdd, Nat.reduceSub, if_true, if_false, Bool.false_eq_true, Bool.true_eq_false, Bool.not_true, Bool.not_false, eq_self, true_and, and_true, and_self, Nat.reduceLT, Nat.reduceLeDiff, Bool.and_true, Bool.true_and, Bool.and_false, Bool.false_and, decide_true, decide_false, wipeL, vGet1, hd, hv.get (key_N a), kget_G]
      unfold Bd.dist
      cases (b.fnd F b.fs.length).get a <;> rfl
  obtain ⟨o4, o5, o6, hlp⟩ := hloop b.fs.length 0 none none none
  have pO : pur (.dK (b.names.map kN) (b.names.map fun a => eO (b.dist F a))) = true := purs_map (fun a => pur_eO _) _
  refine defF_rtA (ex := [(false, .dK (gk (b.fnd F b.fs.length)) (gv (b.fnd F b.fs.length)))]) rfl ?_ pO
  have hlen : hLen [eSt b F] (st ++ [(false, .dK [] [])]) = .ok (.int b.fs.length) (st ++ [(false, .dK [] [])]) := by
    show Z.ok (T.int ((b.names.map kN).length : Nat)) _ = _
    rw [List.length_map]
    unfold Bd.names
    rw [List.length_map]
  have hr : rgOk (b.fs.length : Int) = true := by
    unfold rgOk rgB
    have := hb.few
    simp
    omega
  rw [Nat.zero_add] at hlp
  have hlp' : loop (gN 4) b_distances_4 (rngT 0 b.fs.length) [some (eB b), some t, some (eSt b F), some (.cell st.length), none, none, none] (st ++ [(false, .dK [] [])]) = _ := hlp
  unfold b_distances
  simp only [sSeq, sAsg, sRet, sRetN, sIf, sNext, sBad, sExpr, vVar, vC, v1, v2, v3, vA, vM, aNil, aCons, bOf, bNot, bAnd, bOr, vAnd, vOr, vNot, vIf, bYes, gN, startL, z_ok, z_bad, noX_okE, List.map_cons, List.map_nil, List.length_cons, List.length_nil, List.cons_append, List.nil_append, List.getElem?_cons_zero, List.getElem?_cons_succ, List.set_cons_zero, List.set_cons_succ, List.replicate_succ, List.replicate_zero, Nat.reduceAdd, Nat.reduceSub, if_true, if_false, Bool.false_eq_true, Bool.true_eq_false, Bool.not_true, Bool.not_false, eq_self, true_and, and_true, and_self, Nat.reduceLT, Nat.reduceLeDiff, Bool.and_true, Bool.true_and, Bool.and_false, Bool.false_and, decide_true, decide_false, f_check_board, f_check_set _ b h hF hb.mfew, hq1, vNewKc, sFor, iRange1, hlen, asI1, hr, Int.toNat_natCast, hlp', hq5]
theorem f_is_winning (b : Bd N) (hb : b.Ok) {t : T} {F : List (Mv N)} (h : SV t F) (hF : b.set F) : F_is_winning [eB b, t] st = .ok (.bl (b.dist F b.st).isSome) st := by
  refine defF_rt0 rfl ?_ rfl
  have hk : kget (b.names.map kN) (b.names.map fun a => eO (b.dist F a)) (kN b.st) = some (eO (b.dist F b.st)) := kget_names _ hb.st
  unfold b_is_winning
  simp only [sSeq, sAsg, sRet, sRetN, sIf, sNext, sBad, sExpr, vVar, vC, v1, v2, v3, vA, vM, aNil, aCons, bOf, bNot, bAnd, bOr, vAnd, vOr, vNot, vIf, bYes, gN, startL, z_ok, z_bad, noX_okE, List.map_cons, List.map_nil, List.length_cons, List.length_nil, List.cons_append, List.nil_append, List.getElem?_cons_zero, List.getElem?_cons_succ, List.set_cons_zero, List.set_cons_succ, List.replicate_succ, List.replicate_zero, Nat.reduceAdd, Nat.reduceSub, if_true, if_false, Bool.false_eq_true, Bool.true_eq_false, Bool.not_true, Bool.not_false, eq_self, true_and, and_true, and_self, Nat.reduceLT, Nat.reduceLeDiff, Bool.and_true, Bool.true_and, Bool.and_false, Bool.false_and, decide_true, decide_false, f_distances _ b hb h hF, p_start, DV.dK.ix (key_N b.st) hk, hIs]
  cases b.dist F b.st <;> rfl
end
end V

set_option Elab.async false
set_option linter.all false
set_option maxRecDepth 100000
set_option maxHeartbeats 4000000
namespace V
open PySem L2 Sh
/-! draws from a pool -/
section
variable (st : Sto)
theorem primes_at (j : Int) (h : 0 ≤ j ∧ j < 16) : ∃ p : Int, atI [T.int 1000003, .int 1000033, .int 1000037, .int 1000039, .int 1000081, .int 1000099, .int 1000117, .int 1000121, .int 1000133, .int 1000151, .int 1000159, .int 1000171, .int 1000183, .int 1000187, .int 1000193, .int 1000199] j = some (.int p) ∧ 0 < p := by
  have : j = 0 ∨ j = 1 ∨ j = 2 ∨ j = 3 ∨ j = 4 ∨ j = 5 ∨ j = 6 ∨ j = 7 ∨ j = 8 ∨ j = 9 ∨ j = 10 ∨ j = 11 ∨ j = 12 ∨ j = 13 ∨ j = 14 ∨ j = 15 := by omega
  rcases this with rfl | rfl | rfl | rfl | rfl | rfl | rfl | rfl | rfl | rfl | rfl | rfl | rfl | rfl | rfl | rfl <;> exact ⟨_, rfl, by decide⟩
theorem fmod_pos {i j : Int} (h : 0 < j) : 0 ≤ i.fmod j ∧ i.fmod j < j := by
  rw [Int.fmod_eq_emod_of_nonneg _ (Int.le_of_lt h)]
  exact ⟨Int.emod_nonneg _ (by omega), Int.emod_lt_of_pos _ h⟩
theorem f_draw (c k m : Int) (hk : 0 ≤ k ∧ k < 1000) (hm : 0 < m) : ∃ r : Int, F__law_draw [.int c, .int k, .int m] st = .ok (.int r) st ∧ 0 ≤ r ∧ r < m := by
  obtain ⟨p, hp, hp0⟩ := primes_at (k.fmod 16) (fmod_pos (by decide))
  refine ⟨(((c * 48271 + k * 69621).fmod p).fmod m), defF_rt0 rfl ?_ rfl, fmod_pos hm⟩
  have m1 : hMul (.int c) (.int 48271) st = .ok (.int (c * 48271)) st := mul_int (.inr ⟨by decide, by decide⟩) st
  have m2 : hMul (.int k) (.int 69621) st = .ok (.int (k * 69621)) st := mul_int (.inr ⟨by decide, by decide⟩) st
  have m3 : hMod (.int k) (.int 16) st = .ok (.int (k.fmod 16)) st := mod_int (by decide) st
  have m4 : hMod (.int (c * 48271 + k * 69621)) (.int p) st = .ok (.int ((c * 48271 + k * 69621).fmod p)) st := mod_int (by omega) st
  have m5 : hMod (.int ((c * 48271 + k * 69621).fmod p)) (.int m) st = .ok (.int (((c * 48271 + k * 69621).fmod p).fmod m)) st := mod_int (by omega) st
  have l16 : (16 : Nat) ≤ lim := by decide
  unfold b__law_draw
  simp only [sSeq, sAsg, sRet, sRetN, sIf, sNext, sBad, sExpr, vVar, vC, v1, v2, v3, vA, vM, aNil, aCons, bOf, bNot, bAnd, bOr, vAnd, vOr, vNot, vIf, bYes, gN, startL, z_ok, z_bad, noX_okE, List.map_cons, List.map_nil, List.length_cons, List.length_nil, List.cons_append, List.nil_append, List.getElem?_cons_zero, List.getElem?_cons_succ, List.set_cons_zero, List.set_cons_succ, List.replicate_succ, List.replicate_zero, Nat.reduceAdd, Nat.reduceSub, if_true, if_false, Bool.false_eq_true, Bool.true_eq_false, Bool.not_true, Bool.not_false, eq_self, true_and, and_true, and_self, Nat.reduceLT, Nat.reduceLeDiff, Bool.and_true, Bool.true_and, Bool.and_false, Bool.false_and, decide_true, decide_false, hTup, if_pos l16, m1, m2, m3, add_int, ixe_tup, hp, m4, m5]
theorem ints_map (ns : List Int) : ints? (ns.map T.int) = some ns := by
  induction ns with
  | nil => rfl
  | cons n ns ih => rw [List.map_cons]; unfold ints?; rw [ih]
theorem f_cell_at (ns : List Int) (k : Nat) (hk : k < 1000) : ∃ r : Int, F__law_cell_at [.lst (ns.map .int), .int k] st = .ok (.int r) st ∧ 0 ≤ r := by
  by_cases h : k < ns.length
  · have hi : atI (ns.map T.int) (k : Int) = some (.int ns[k]) := atI_nat (by rw [List.getElem?_map, List.getElem?_eq_getElem h]; rfl)
    refine ⟨if ns[k] < 0 then -ns[k] else ns[k], defF_rt0 rfl ?_ rfl, by split <;> omega⟩
    have h1 : ((k : Int) < ((ns.map T.int).length : Nat)) = True := by rw [List.length_map]; exact eq_true (by omega)
    unfold b__law_cell_at
    simp only [sSeq, sAsg, sRet, sRetN, sIf, sNext, sBad, sExpr, vVar, vC, v1, v2, v3, vA, vM, aNil, aCons, bOf, bNot, bAnd, bOr, vAnd, vOr, vNot, vIf, bYes, gN, startL, z_ok, z_bad, noX_okE, List.map_cons, List.map_nil, List.length_cons, List.length_nil, List.cons_append, List.nil_append, List.getElem?_cons_zero, List.getElem?_cons_succ, List.set_cons_zero, List.set_cons_succ, List.replicate_succ, List.replicate_zero, Nat.reduceAdd, Nat.reduceSub, if_true, if_false, Bool.false_eq_true, Bool.true_eq_false, Bool.not_true, Bool.not_false, eq_self, true_and, and_true, and_self, Nat.reduceLT, Nat.reduceLeDiff, Bool.and_true, Bool.true_and, Bool.and_false, Bool.false_and, decide_true, decide_false, len_lst, lt_int, h1, ixe_lst, hi, hAbs]
  · obtain ⟨r, hr, h0, _⟩ := f_draw st ((if ns.sum < 0 then -ns.sum else ns.sum) + 7919 * k) k 999983 ⟨by omega, by omega⟩ (by decide)
    refine ⟨r, defF_rt0 rfl ?_ rfl, h0⟩
    have h1 : ((k : Int) < ((ns.map T.int).length : Nat)) = False := by rw [List.length_map]; exact eq_false (by omega)
    have m1 : hMul (.int 7919) (.int k) st = .ok (.int (7919 * k)) st := mul_int (.inl ⟨by decide, by decide⟩) st
    have hs : hSum [.lst (ns.map T.int)] st = .ok (.int ns.sum) st := by
      unfold hSum asL
      simp only [ints_map]
    unfold b__law_cell_at
    simp only [sSeq, sAsg, sRet, sRetN, sIf, sNext, sBad, sExpr, vVar, vC, v1, v2, v3, vA, vM, aNil, aCons, bOf, bNot, bAnd, bOr, vAnd, vOr, vNot, vIf, bYes, gN, startL, z_ok, z_bad, noX_okE, List.map_cons, List.map_nil, List.length_cons, List.length_nil, List.cons_append, List.nil_append, List.getElem?_cons_zero, List.getElem?_cons_succ, List.set_cons_zero, List.set_cons_succ, List.replicate_succ, List.replicate_zero, Nat.reduceAdd, Nat.reduceSub, if_true, if_false, Bool.false_eq_true, Bool.true_eq_false, Bool.not_true, Bool.not_false, eq_self, true_and, and_true, and_self, Nat.reduceLT, Nat.reduceLeDiff, Bool.and_true, Bool.true_and, Bool.and_false, Bool.false_and, decide_true, decide_false, len_lst, lt_int, h1, hs, hAbs, m1, add_int, hr]
theorem pow18 (s : Sto) : hPow (.int 10) (.int 18) s = .ok (.int 1000000000000000000) s := rfl
theorem div_int {i j : Int} (h : j ≠ 0 ∧ j.natAbs < 1073741824) (s : Sto) : or2 hDiv hDivW (.int i) (.int j) s = .ok (.int (i.fdiv j)) s := by
  unfold or2
  have : hDiv (.int i) (.int j) s = .ok (.int (i.fdiv j)) s := if_pos (decide_eq_true h)
  rw [this]
  rfl
theorem append_end {v : T} {xs ex : List T} (hp : pur v = true) (hl : xs.length < lim) : hAppend (.cell st.length) v (st ++ [(false, .lst xs)]) = .ok .non (st ++ [(false, .lst (xs ++ [v]))]) := by
  unfold hAppend
  simp only [get_app0, List.getElem?_cons_zero, hp, decide_eq_true hl, Bool.and_self, if_true, set_app0, List.set_cons_zero]
theorem lu_end {xs : List T} : isLu (st ++ [(false, .lst xs)]) (.cell st.length) = true := by
  unfold isLu
  simp only [get_app0, List.getElem?_cons_zero]
theorem l_digits (ns : T) (a m : T) (base cell : Int) (hb : base = 1000003 ∨ base = 999983) (hc : 0 ≤ cell) : ∀ (k i : Nat) (left : Int) (o5 o8 o9 : Option T) (ds : List Int), i + k ≤ 150 → ds.length = i →
    ∃ (ds' : List Int) (o4' o5' o8' o9' : Option T), loop (gN 5) b__law_digits_1 (rngT (i : Int) k) [some ns, some a, some m, some (.int base), some (.int left), o5, some (.int cell), some (.cell st.length), o8, o9] (st ++ [(false, .lst (ds.map .int))]) = .ok (.nx [some ns, some a, some m, some (.int base), o4', o5', some (.int cell), some (.cell st.length), o8', o9']) (st ++ [(false, .lst (ds'.map .int))]) ∧ ds'.length = i + k
  | 0, i, left, o5, o8, o9, ds, _, hl => ⟨ds, _, o5, o8, o9, rfl, hl⟩
  | k + 1, i, left, o5, o8, o9, ds, h, hl => by
    have bne : base ≠ 0 ∧ base.natAbs < 1073741824 := by rcases hb with rfl | rfl <;> decide
    have key : ∀ (b : Fs), b = b__law_digits_1 → ∃ (d left' : Int) (o8' o9' : Option T), b [some ns, some a, some m, some (.int base), some (.int left), some (.int i), some (.int cell), some (.cell st.length), o8, o9] (st ++ [(false, .lst (ds.map .int))]) = .ok (.nx [some ns, some a, some m, some (.int base), some (.int left'), some (.int i), some (.int cell), some (.cell st.length), o8', o9']) (st ++ [(false, .lst ((ds ++ [d]).map .int))]) := by
      intro b hb'
      have hlen : (ds.map T.int).length < lim := by rw [List.length_map]; exact Nat.lt_of_le_of_lt (show ds.length ≤ 150 by omega) (by decide)
      have hmod : ∀ (x : Int) (s : Sto), hMod (.int x) (.int base) s = .ok (.int (x.fmod base)) s := fun x s => mod_int bne.1 s
      by_cases hbig : (1000000000000000000 : Int) ≤ cell
      · refine ⟨left.fmod base, left.fdiv base, o8, o9, ?_⟩
        subst hb'
        unfold b__law_digits_1
        simp only [sSeq, sAsg, sRet, sRetN, sIf, sNext, sBad, sExpr, vVar, vC, v1, v2, v3, vA, vM, aNil, aCons, bOf, bNot, bAnd, bOr, vAnd, vOr, vNot, vIf, bYes, gN, startL, z_ok, z_bad, noX_okE, List.map_cons, List.map_nil, List.length_cons, List.length_nil, List.cons_append, List.nil_append, List.getElem?_cons_zero, List.getElem?_cons_succ, List.set_cons_zero, List.set_cons_succ, List.replicate_succ, List.replicate_zero, Nat.reduceAdd, Nat.reduceSub, if_true, if_false, Bool.false_eq_true, Bool.true_eq_false, Bool.not_true, Bool.not_false, eq_self, true_and, and_true, and_self, Nat.reduceLT, Nat.reduceLeDiff, Bool.and_true, Bool.true_and, Bool.and_false, Bool.false_and, decide_true, decide_false, pow18, ge_int, hbig, vAppend, lu_end, hmod, append_end st (ex := []) (pur_int _) hlen, div_int bne, List.map_append]
      · obtain ⟨r1, h1, _⟩ := f_draw (st ++ [(false, .lst (ds.map .int))]) ((cell + 977 * i) * (cell + 31 * i + 5)) ((i : Int).fmod 9 + 1) 999983 (by have := fmod_pos (i := (i : Int)) (j := 9) (by decide); omega) (by decide)
        obtain ⟨r2, h2, _⟩ := f_draw (st ++ [(false, .lst (ds.map .int))]) ((cell + 31 * i) * (cell + 7) + 977 * i) ((i : Int).fmod 7 + 2) 1000003 (by have := fmod_pos (i := (i : Int)) (j := 7) (by decide); omega) (by decide)
        refine ⟨(r1 * 1000003 + r2).fmod base, left, some (.int r1), some (.int r2), ?_⟩
        subst hb'
        have hi : (i : Int) < 150 := by omega
        have hi0 : 0 ≤ (i : Int) := by omega
        have m1 : ∀ s, hMul (.int 977) (.int i) s = .ok (.int (977 * i)) s := fun s => mul_int (.inl ⟨by decide, by decide⟩) s
        have m2 : ∀ s, hMul (.int 31) (.int i) s = .ok (.int (31 * i)) s := fun s => mul_int (.inl ⟨by decide, by decide⟩) s
        have m3 : ∀ s, hMul (.int (cell + 977 * i)) (.int (cell + 31 * i + 5)) s = .ok (.int ((cell + 977 * i) * (cell + 31 * i + 5))) s := fun s => mul_int (.inl ⟨by omega, by omega⟩) s
        have m4 : ∀ s, hMul (.int (cell + 31 * i)) (.int (cell + 7)) s = .ok (.int ((cell + 31 * i) * (cell + 7))) s := fun s => mul_int (.inl ⟨by omega, by omega⟩) s
        have m5 : ∀ s, hMul (.int r1) (.int 1000003) s = .ok (.int (r1 * 1000003)) s := fun s => mul_int (.inr ⟨by decide, by decide⟩) s
        have m6 : ∀ s, hMod (.int (i : Int)) (.int 9) s = .ok (.int ((i : Int).fmod 9)) s := fun s => mod_int (by decide) s
        have m7 : ∀ s, hMod (.int (i : Int)) (.int 7) s = .ok (.int ((i : Int).fmod 7)) s := fun s => mod_int (by decide) s
        unfold b__law_digits_1
        simp only [sSeq, sAsg, sRet, sRetN, sIf, sNext, sBad, sExpr, vVar, vC, v1, v2, v3, vA, vM, aNil, aCons, bOf, bNot, bAnd, bOr, vAnd, vOr, vNot, vIf, bYes, gN, startL, z_ok, z_bad, noX_okE, List.map_cons, List.map_nil, List.length_cons, List.length_nil, List.cons_append, List.nil_append, List.getElem?_cons_zero, List.getElem?_cons_succ, List.set_cons_zero, List.set_cons_succ, List.replicate_succ, List.replicate_zero, Nat.reduceAdd, Nat.reduceSub, if_true, if_false, Bool.false_eq_true, Bool.true_eq_false, Bool.not_true, Bool.not_false, eq_self, true_and, and_true, and_self, Nat.reduceLT, Nat.reduceLeDiff, Bool.and_true, Bool.true_and, Bool.and_false, Bool.false_and, decide_true, decide_false, pow18, ge_int, decide_eq_false hbig, vAppend, lu_end, hmod, m1, m2, m3, m4, m5, m6, m7, add_int, h1, h2, append_end st (ex := []) (pur_int _) hlen, List.map_append]
    obtain ⟨d, left', o8', o9', hk⟩ := key _ rfl
    obtain ⟨ds', p4, p5, p8, p9, ih, hl2⟩ := l_digits ns a m base cell hb hc k (i + 1) left' (some (.int i)) o8' o9' (ds ++ [d]) (by omega) (by rw [List.length_append, hl]; rfl)
    refine ⟨ds', p4, p5, p8, p9, ?_, by omega⟩
    unfold rngT
    rw [loop_step rfl hk, show (i : Int) + 1 = ((i + 1 : Nat) : Int) from rfl, ih]
theorem f_digits (ns : List Int) (k : Nat) (hk : k < 1000) (base : Int) (hb : base = 1000003 ∨ base = 999983) : ∃ ds : List Int, F__law_digits [.lst (ns.map .int), .int k, .int 150, .int base] st = .ok (.cell st.length) (st ++ [(false, .lst (ds.map .int))]) ∧ ds.length = 150 := by
  obtain ⟨cell, hc, h0⟩ := f_cell_at st ns k hk
  obtain ⟨ds, o4, o5, o8, o9, hl, hlen⟩ := l_digits st (.lst (ns.map .int)) (.int k) (.int 150) base cell hb h0 150 0 (cell - 1000000000000000000) none none none [] (by decide) rfl
  refine ⟨ds, ?_, hlen⟩
  unfold F__law_digits defFC
  rw [if_pos (show [T.lst (ns.map .int), .int k, .int 150, .int base].length = 4 from rfl)]
  have hb : b__law_digits (startL 10 [.lst (ns.map .int), .int k, .int 150, .int base]) st = .ok (.rt (.cell st.length)) (st ++ [(false, .lst (ds.map .int))]) := by
    have hl' : loop (gN 5) b__law_digits_1 (rngT 0 150) _ (st ++ [(false, .lst [])]) = _ := hl
    have r150 : rgOk 150 = true := by decide
    unfold b__law_digits
    simp only [sSeq, sAsg, sRet, sRetN, sIf, sNext, sBad, sExpr, vVar, vC, v1, v2, v3, vA, vM, aNil, aCons, bOf, bNot, bAnd, bOr, vAnd, vOr, vNot, vIf, bYes, gN, startL, z_ok, z_bad, noX_okE, List.map_cons, List.map_nil, List.length_cons, List.length_nil, List.cons_append, List.nil_append, List.getElem?_cons_zero, List.getElem?_cons_succ, List.set_cons_zero, List.set_cons_succ, List.replicate_succ, List.replicate_zero, Nat.reduceAdd, Nat.reduceSub, if_true, if_false, Bool.false_eq_true, Bool.true_eq_false, Bool.not_true, Bool.not_false, eq_self, true_and, and_true, and_self, Nat.reduceLT, Nat.reduceLeDiff, Bool.and_true, Bool.true_and, Bool.and_false, Bool.false_and, decide_true, decide_false, sPar, hc, hLstC, List.zip_cons_cons, List.zip_nil_right, List.foldl_cons, List.foldl_nil, purs_nil, Nat.zero_le, pow18, sub_int, sFor, iRange1, asI1, r150, show (150 : Int).toNat = 150 from rfl, hl']
  unfold runB
  rw [hb]
  simp only [z_ok, truncC, Nat.le_refl, if_true, get_app0, List.getElem?_cons_zero, List.take_left]

theorem aslf_at {s : Sto} {i : Nat} {xs : List T} (h : s[i]? = some (false, .lst xs)) : asLf s (.cell i) = some xs := by
  unfold asLf
  simp only [h]
theorem addC_ok {s : Sto} {a b : T} {xs ys : List T} (h1 : asLf s a = some xs) (h2 : asLf s b = some ys) (hl : xs.length + ys.length ≤ lim) (p1 : purs xs = true) (p2 : purs ys = true) : hAddC a b s = .ok (.cell s.length) (s ++ [(false, .lst (xs ++ ys))]) := by
  unfold hAddC
  simp only [h1, h2]
  rw [p1, p2, decide_eq_true hl]
  rfl
theorem f_pool (ns : List Int) : ∃ ds : List Int, F__law_pool [.lst (ns.map .int), .tup [.int 1000003, .int 999983]] st = .ok (.cell st.length) (st ++ [(false, .lst (ds.map .int))]) := by
  obtain ⟨d1, h1, l1⟩ := f_digits (st ++ [(false, .lst [])]) ns 0 (by decide) 1000003 (.inl rfl)
  have e1 : (st ++ [(false, MO.lst [])]).length = st.length + 1 := by simp
  obtain ⟨d2, h2, l2⟩ := f_digits (st ++ [(false, .lst []), (false, .lst (d1.map .int)), (false, .lst (d1.map .int))]) ns 1 (by decide) 999983 (.inr rfl)
  have e2 : (st ++ [(false, MO.lst []), (false, .lst (d1.map .int)), (false, .lst (d1.map .int))]).length = st.length + 3 := by simp
  refine ⟨d1 ++ d2, ?_⟩
  unfold F__law_pool defFC
  rw [if_pos (show [T.lst (ns.map .int), .tup [.int 1000003, .int 999983]].length = 2 from rfl)]
  have hb : b__law_pool (startL 5 [.lst (ns.map .int), .tup [.int 1000003, .int 999983]]) st = .ok (.rt (.cell (st.length + 4))) (st ++ [(false, .lst []), (false, .lst (d1.map .int)), (false, .lst (d1.map .int)), (false, .lst (d2.map .int)), (false, .lst ((d1 ++ d2).map .int))]) := by
    have b1 : b__law_pool_1 [some (.lst (ns.map .int)), some (.tup [.int 1000003, .int 999983]), some (.cell st.length), some (.int 0), some (.int 1000003)] (st ++ [(false, .lst [])]) = .ok (.nx [some (.lst (ns.map .int)), some (.tup [.int 1000003, .int 999983]), some (.cell (st.length + 2)), some (.int 0), some (.int 1000003)]) (st ++ [(false, .lst []), (false, .lst (d1.map .int)), (false, .lst (d1.map .int))]) := by
      have a1 : asLf (st ++ [(false, .lst []), (false, .lst (d1.map .int))]) (.cell st.length) = some [] := aslf_at (by rw [get_app0]; rfl)
      have a2 : asLf (st ++ [(false, .lst []), (false, .lst (d1.map .int))]) (.cell (st.length + 1)) = some (d1.map .int) := aslf_at (by rw [get_app]; rfl)
      have h1' : F__law_digits [.lst (ns.map .int), .int 0, .int 150, .int 1000003] (st ++ [(false, .lst [])]) = .ok (.cell (st.length + 1)) (st ++ [(false, .lst []), (false, .lst (d1.map .int))]) := by
        have := h1
        rw [e1, List.append_assoc] at this
        exact this
      have c1 := addC_ok a1 a2 (by rw [List.length_map, l1]; decide) rfl (purs_ints d1)
      unfold b__law_pool_1
      simp only [sSeq, sAsg, sRet, sRetN, sIf, sNext, sBad, sExpr, vVar, vC, v1, v2, v3, vA, vM, aNil, aCons, bOf, bNot, bAnd, bOr, vAnd, vOr, vNot, vIf, bYes, gN, startL, z_ok, z_bad, noX_okE, List.map_cons, List.map_nil, List.length_cons, List.length_nil, List.cons_append, List.nil_append, List.getElem?_cons_zero, List.getElem?_cons_succ, List.set_cons_zero, List.set_cons_succ, List.replicate_succ, List.replicate_zero, Nat.reduceAdd, Nat.reduceSub, if_true, if_false, Bool.false_eq_true, Bool.true_eq_false, Bool.not_true, Bool.not_false, eq_self, true_and, and_true, and_self, Nat.reduceLT, Nat.reduceLeDiff, Bool.and_true, Bool.true_and, Bool.and_false, Bool.false_and, decide_true, decide_false, h1', c1, List.append_assoc, List.length_append]
    have b2 : b__law_pool_1 [some (.lst (ns.map .int)), some (.tup [.int 1000003, .int 999983]), some (.cell (st.length + 2)), some (.int 1), some (.int 999983)] (st ++ [(false, .lst []), (false, .lst (d1.map .int)), (false, .lst (d1.map .int))]) = .ok (.nx [some (.lst (ns.map .int)), some (.tup [.int 1000003, .int 999983]), some (.cell (st.length + 4)), some (.int 1), some (.int 999983)]) (st ++ [(false, .lst []), (false, .lst (d1.map .int)), (false, .lst (d1.map .int)), (false, .lst (d2.map .int)), (false, .lst ((d1 ++ d2).map .int))]) := by
      have a1 : asLf (st ++ [(false, .lst []), (false, .lst (d1.map .int)), (false, .lst (d1.map .int)), (false, .lst (d2.map .int))]) (.cell (st.length + 2)) = some (d1.map .int) := aslf_at (by rw [get_app]; rfl)
      have a2 : asLf (st ++ [(false, .lst []), (false, .lst (d1.map .int)), (false, .lst (d1.map .int)), (false, .lst (d2.map .int))]) (.cell (st.length + 3)) = some (d2.map .int) := aslf_at (by rw [get_app]; rfl)
      have h2' : F__law_digits [.lst (ns.map .int), .int 1, .int 150, .int 999983] (st ++ [(false, .lst []), (false, .lst (d1.map .int)), (false, .lst (d1.map .int))]) = .ok (.cell (st.length + 3)) (st ++ [(false, .lst []), (false, .lst (d1.map .int)), (false, .lst (d1.map .int)), (false, .lst (d2.map .int))]) := by
        have := h2
        rw [e2, List.append_assoc] at this
        exact this
      have c1 := addC_ok a1 a2 (by rw [List.length_map, List.length_map, l1, l2]; decide) (purs_ints d1) (purs_ints d2)
      unfold b__law_pool_1
      simp only [sSeq, sAsg, sRet, sRetN, sIf, sNext, sBad, sExpr, vVar, vC, v1, v2, v3, vA, vM, aNil, aCons, bOf, bNot, bAnd, bOr, vAnd, vOr, vNot, vIf, bYes, gN, startL, z_ok, z_bad, noX_okE, List.map_cons, List.map_nil, List.length_cons, List.length_nil, List.cons_append, List.nil_append, List.getElem?_cons_zero, List.getElem?_cons_succ, List.set_cons_zero, List.set_cons_succ, List.replicate_succ, List.replicate_zero, Nat.reduceAdd, Nat.reduceSub, if_true, if_false, Bool.false_eq_true, Bool.true_eq_false, Bool.not_true, Bool.not_false, eq_self, true_and, and_true, and_self, Nat.reduceLT, Nat.reduceLeDiff, Bool.and_true, Bool.true_and, Bool.and_false, Bool.false_and, decide_true, decide_false, h2', c1, List.append_assoc, List.length_append, List.map_append]
    unfold b__law_pool
    simp only [sSeq, sAsg, sRet, sRetN, sIf, sNext, sBad, sExpr, vVar, vC, v1, v2, v3, vA, vM, aNil, aCons, bOf, bNot, bAnd, bOr, vAnd, vOr, vNot, vIf, bYes, gN, startL, z_ok, z_bad, noX_okE, List.map_cons, List.map_nil, List.length_cons, List.length_nil, List.cons_append, List.nil_append, List.getElem?_cons_zero, List.getElem?_cons_succ, List.set_cons_zero, List.set_cons_succ, List.replicate_succ, List.replicate_zero, Nat.reduceAdd, Nat.reduceSub, if_true, if_false, Bool.false_eq_true, Bool.true_eq_false, Bool.not_true, Bool.not_false, eq_self, true_and, and_true, and_self, Nat.reduceLT, Nat.reduceLeDiff, Bool.and_true, Bool.true_and, Bool.and_false, Bool.false_and, decide_true, decide_false, hLstC, purs_nil, Nat.zero_le, sFor, iEnumFT, asT, enumT]
    rw [loop_step rfl b1, loop_step rfl b2, loop_nil]
    simp only [sSeq, sAsg, sRet, sRetN, sIf, sNext, sBad, sExpr, vVar, vC, v1, v2, v3, vA, vM, aNil, aCons, bOf, bNot, bAnd, bOr, vAnd, vOr, vNot, vIf, bYes, gN, startL, z_ok, z_bad, noX_okE, List.map_cons, List.map_nil, List.length_cons, List.length_nil, List.cons_append, List.nil_append, List.getElem?_cons_zero, List.getElem?_cons_succ, List.set_cons_zero, List.set_cons_succ, List.replicate_succ, List.replicate_zero, Nat.reduceAdd, Nat.reduceSub, if_true, if_false, Bool.false_eq_true, Bool.true_eq_false, Bool.not_true, Bool.not_false, eq_self, true_and, and_true, and_self, Nat.reduceLT, Nat.reduceLeDiff, Bool.and_true, Bool.true_and, Bool.and_false, Bool.false_and, decide_true, decide_false]
  unfold runB
  rw [hb]
  have hle : st.length ≤ st.length + 4 := by omega
  simp only [z_ok, truncC, hle, if_true, get_app, List.getElem?_cons_zero, List.getElem?_cons_succ, List.take_left]
/-! one draw; the pool stands at the cell c -/
abbrev dr (c : Nat) (ds : List Int) (st : Sto) : Sto := st.set c (false, .lst (ds.map .int))
theorem dr_dr (c : Nat) (ds es : List Int) (st : Sto) : dr c ds (dr c es st) = dr c ds st := List.set_set _
def HasD (c : Nat) (st : Sto) : Prop := ∃ ds : List Int, st[c]? = some (false, .lst (ds.map .int))
theorem HasD.dr {c : Nat} {st : Sto} (h : HasD c st) (ds : List Int) : HasD c (dr c ds st) := by
  obtain ⟨es, h⟩ := h
  exact ⟨ds, List.getElem?_set_self (List.getElem?_eq_some_iff.mp h).1⟩
theorem HasD.app {c : Nat} {st : Sto} (h : HasD c st) (ex : Sto) : HasD c (st ++ ex) := by
  obtain ⟨es, h⟩ := h
  exact ⟨es, get_lo h⟩
theorem HasD.lt {c : Nat} {st : Sto} (h : HasD c st) : c < st.length := by
  obtain ⟨es, h⟩ := h
  exact (List.getElem?_eq_some_iff.mp h).1
theorem dr_app {c : Nat} {st : Sto} (h : c < st.length) (ds : List Int) (ex : Sto) : dr c ds (st ++ ex) = dr c ds st ++ ex := List.set_append_left _ _ h
theorem dr_len (c : Nat) (ds : List Int) (st : Sto) : (dr c ds st).length = st.length := List.length_set
theorem seq_at {n : Nat} {i : Int} (h0 : 0 ≤ i) (h : i < n) : seqIndex? i n = some i.toNat := (ixN_seq (n := n) (i := i) (j := i.toNat) (by unfold ixN; rw [if_pos h0, if_pos h])).1
theorem popAt_ok {c : Nat} {xs : List T} {i : Int} {y : T} {s : Sto} (hs : s[c]? = some (false, .lst xs)) (h0 : 0 ≤ i) (h1 : i < 1000000) (hx : xs[i.toNat]? = some y) : hPopAt (.cell c) (.int i) s = .ok y (s.set c (false, .lst (xs.eraseIdx i.toNat))) := by
  have hl : i < (xs.length : Nat) := by
    have := (List.getElem?_eq_some_iff.mp hx).1
    omega
  have hd : decide (-(2 ^ 63) ≤ i ∧ i < 2 ^ 63) = true := decide_eq_true ⟨by omega, by omega⟩
  unfold hPopAt
  simp only [hs, hd, if_true, seq_at h0 hl, hx]
theorem f_take {c : Nat} (h : HasD c st) (k : Int) (hk : 0 < k) : ∃ (r : Int) (ds : List Int), F__law_take [.cell c, .int k] st = .ok (.int r) (dr c ds st) ∧ 0 ≤ r ∧ r < k := by
  obtain ⟨es, he⟩ := h
  have py : toPyF st (.cell c) = some (.list (es.map .int)) := by
    unfold toPyF
    simp only [he]
    rw [show (es.map T.int) = es.map Enc.t from rfl, toPys_enc]
    rfl
  have hne : hEqF false (.cell c) (.lst []) st = .ok (.bl (!decide (es = []))) st := by
    unfold hEqF
    rw [py, show toPyF st (.lst []) = some (.list (([] : List Int).map Enc.d)) from rfl]
    have s1 := shapeds_enc es (by decide)
    have s2 := shapeds_enc ([] : List Int) (by decide)
    simp only [show (es.map PyData.int) = es.map Enc.d from rfl, s1, s2, Bool.and_self, if_true]
    have := Enc.eq (α := List Int) es []
    rw [show PyData.eqv (.list (es.map Enc.d)) (.list (([] : List Int).map Enc.d)) = decide (es = []) from this]
    rfl
  cases es with
  | nil =>
    refine ⟨0, [], ?_, by omega, hk⟩
    rw [show dr c [] st = st from set_same he]
    refine defF_rt0 rfl ?_ rfl
    unfold b__law_take
    simp only [sSeq, sAsg, sRet, sRetN, sIf, sNext, sBad, sExpr, vVar, vC, v1, v2, v3, vA, vM, aNil, aCons, bOf, bNot, bAnd, bOr, vAnd, vOr, vNot, vIf, bYes, gN, startL, z_ok, z_bad, noX_okE, List.map_cons, List.map_nil, List.length_cons, List.length_nil, List.cons_append, List.nil_append, List.getElem?_cons_zero, List.getElem?_cons_succ, List.set_cons_zero, List.set_cons_succ, List.replicate_succ, List.replicate_zero, Nat.reduceAdd, Nat.reduceSub, if_true, if_false, Bool.false_eq_true, Bool.true_eq_false, Bool.not_true, Bool.not_false, eq_self, true_and, and_true, and_self, Nat.reduceLT, Nat.reduceLeDiff, Bool.and_true, Bool.true_and, Bool.and_false, Bool.false_and, decide_true, decide_false, hLst, Nat.zero_le, hne]
  | cons e es =>
    refine ⟨e.fmod k, es, ?_, fmod_pos hk⟩
    have hm : ∀ s, hMod (.int e) (.int k) s = .ok (.int (e.fmod k)) s := fun s => mod_int (by omega) s
    have hlu : isLu st (.cell c) = true := by unfold isLu; simp only [he]
    have hpop : hPopAt (.cell c) (.int 0) st = .ok (.int e) (dr c es st) := popAt_ok he (by decide) (by decide) rfl
    have := defF_rt (fn := fnX) (n := 2) (N := 2) (b := b__law_take) (as := [.cell c, .int k]) (st := st) (s' := dr c es st) (t := .int (e.fmod k)) rfl (by
      unfold b__law_take
      simp only [sSeq, sAsg, sRet, sRetN, sIf, sNext, sBad, sExpr, vVar, vC, v1, v2, v3, vA, vM, aNil, aCons, bOf, bNot, bAnd, bOr, vAnd, vOr, vNot, vIf, bYes, gN, startL, z_ok, z_bad, noX_okE, List.map_cons, List.map_nil, List.length_cons, List.length_nil, List.cons_append, List.nil_append, List.getElem?_cons_zero, List.getElem?_cons_succ, List.set_cons_zero, List.set_cons_succ, List.replicate_succ, List.replicate_zero, Nat.reduceAdd, Nat.reduceSub, if_true, if_false, Bool.false_eq_true, Bool.true_eq_false, Bool.not_true, Bool.not_false, eq_self, true_and, and_true, and_self, Nat.reduceLT, Nat.reduceLeDiff, Bool.and_true, Bool.true_and, Bool.and_false, Bool.false_and, decide_true, decide_false, hLst, Nat.zero_le, hne, vPopAt, hlu, hpop, hm, reduceCtorEq]) rfl
    rw [← dr_len c es st, List.take_length] at this
    exact this
end
end V

set_option Elab.async false
set_option linter.all false
set_option maxRecDepth 100000
set_option maxHeartbeats 4000000
namespace V
open PySem L2 Sh
/-! a plan is drawn -/
def nmF : Fin 6 → Str := fun i => match i with | 0 => "b" | 1 => "a" | 2 => "mid" | 3 => "end" | 4 => "c" | 5 => "far"
def N6 : NS where
  ν := Fin 6
  dec := inferInstance
  nm := nmF
  inj := by decide +kernel
  ok := by decide +kernel
section
variable {N : NS}
def eRow (p : N.ν × Fd N) : T := .tup [eN p.1, .int p.2.ow, .tup (p.2.tg.map eN), .bl p.2.go]
def eFee (p : Mv N × Int) : T := .tup [eM p.1, .int p.2]
def ePlan (b : Bd N) : T := .tup [.lst (b.fs.map eRow), eN b.st, .lst (b.ps.map eFee)]
theorem pur_eRow (p : N.ν × Fd N) : pur (eRow p) = true := by
  unfold eRow
  simp [purs_map (fun a => pur_eN (N := N) a)]
theorem pur_eFee (p : Mv N × Int) : pur (eFee p) = true := by
  unfold eFee
  simp
theorem pur_ePlan (b : Bd N) : pur (ePlan b) = true := by
  unfold ePlan
  simp [purs_map pur_eRow, purs_map pur_eFee]
/-- a comprehension whose condition draws -/
theorem cLoop_sub {α : Type} {c : Nat} {g : Tg} {cd : Fb} {e : Fx} {ρ : Lo} {enc h : α → T} : ∀ (l : List α) (s : Sto), HasD c s → (∀ a ∈ l, ∃ ρ', g (enc a) ρ = some ρ' ∧ ∀ ds', ∃ b ds'', cd ρ' (dr c ds' s) = .ok b (dr c ds'' s) ∧ e ρ' (dr c ds'' s) = .ok (h a) (dr c ds'' s)) →
    ∃ (sel : List α) (ds' : List Int), sel.Sublist l ∧ cLoop g cd e ρ (l.map enc) s = .ok (sel.map h) (dr c ds' s)
  | [], s, ⟨ds, h⟩, _ => ⟨[], ds, List.Sublist.refl _, by rw [show dr c ds s = s from set_same h]; rfl⟩
  | a :: l, s, hd, hh => by
    obtain ⟨ds0, h0⟩ := id hd
    obtain ⟨ρ', h1, h2⟩ := hh a (by simp)
    obtain ⟨b, ds2, h3, h4⟩ := h2 ds0
    rw [show dr c ds0 s = s from set_same h0] at h3
    obtain ⟨sel, ds', h5, h6⟩ := cLoop_sub (c := c) (g := g) (cd := cd) (e := e) (ρ := ρ) (enc := enc) (h := h) l (dr c ds2 s) (hd.dr ds2) fun a' ha' => by
      obtain ⟨ρ2, k1, k2⟩ := hh a' (List.mem_cons_of_mem _ ha')
      refine ⟨ρ2, k1, fun es => ?_⟩
      obtain ⟨b', ds3, k3, k4⟩ := k2 es
      exact ⟨b', ds3, by simpa only [dr_dr] using k3, by simpa only [dr_dr] using k4⟩
    rw [dr_dr] at h6
    rw [List.map_cons]
    unfold cLoop
    rw [h1]
    simp only [h3, noX_okE, z_ok]
    cases b with
    | true => exact ⟨a :: sel, ds', List.Sublist.cons₂ _ h5, by simp only [if_true, h4, noX_okE, z_ok, h6, List.map_cons]⟩
    | false => exact ⟨sel, ds', List.Sublist.cons _ h5, by simp only [Bool.false_eq_true, if_false, h6]⟩
theorem append_at {i : Nat} {v : T} {xs : List T} {s : Sto} (hs : s[i]? = some (false, .lst xs)) (hp : pur v = true) (hl : xs.length < lim) : hAppend (.cell i) v s = .ok .non (s.set i (false, .lst (xs ++ [v]))) := by
  unfold hAppend
  simp only [hs, hp, decide_eq_true hl, Bool.and_self, if_true]
theorem lu_at {i : Nat} {xs : List T} {s : Sto} (hs : s[i]? = some (false, .lst xs)) : isLu s (.cell i) = true := by
  unfold isLu
  simp only [hs]
/-- the moves of some rows -/
def mvs (rs : List (N.ν × Fd N)) : List (Mv N) := rs.flatMap fun p => p.2.tg.map fun x => (p.1, x)
theorem mvs_app (rs : List (N.ν × Fd N)) (p : N.ν × Fd N) : mvs (rs ++ [p]) = mvs rs ++ p.2.tg.map fun x => (p.1, x) := by
  unfold mvs
  rw [List.flatMap_append]
  simp
theorem mvs_mem {rs : List (N.ν × Fd N)} {m : Mv N} : m ∈ mvs rs ↔ ∃ p ∈ rs, p.1 = m.1 ∧ m.2 ∈ p.2.tg := by
  unfold mvs
  rw [List.mem_flatMap]
  constructor
  · rintro ⟨p, hp, h⟩
    obtain ⟨x, hx, rfl⟩ := List.mem_map.mp h
    exact ⟨p, hp, rfl, hx⟩
  · rintro ⟨p, hp, h1, h2⟩
    exact ⟨p, hp, List.mem_map.mpr ⟨m.2, h2, by rw [h1]⟩⟩
theorem mvs_nodup : ∀ {rs : List (N.ν × Fd N)}, (rs.map (·.1)).Nodup → (∀ p ∈ rs, p.2.tg.Nodup) → (mvs rs).Nodup
  | [], _, _ => List.nodup_nil
  | p :: rs, h, ht => by
    rw [List.map_cons, List.nodup_cons] at h
    show (p.2.tg.map (fun x => (p.1, x)) ++ mvs rs).Nodup
    rw [List.nodup_append]
    refine ⟨nodup_mapI (fun a b e => by cases e; rfl) (ht p (by simp)), mvs_nodup h.2 fun q hq => ht q (List.mem_cons_of_mem _ hq), fun m hm n hn => ?_⟩
    rintro rfl
    obtain ⟨x, hx, rfl⟩ := List.mem_map.mp hm
    obtain ⟨q, hq, e, _⟩ := mvs_mem.mp hn
    exact h.1 (List.mem_map.mpr ⟨q, hq, e⟩)

theorem get_appL {B ex : Sto} {L : Nat} (h : B.length = L) (k : Nat) : (B ++ ex)[L + k]? = ex[k]? := by subst h; exact get_app k
theorem get_appL0 {B ex : Sto} {L : Nat} (h : B.length = L) : (B ++ ex)[L]? = ex[0]? := by subst h; exact get_app0
theorem set_appL {B ex : Sto} {L : Nat} (h : B.length = L) (k : Nat) (y : Bool × MO) : (B ++ ex).set (L + k) y = B ++ ex.set k y := by subst h; exact set_app k y
theorem set_appL0 {B ex : Sto} {L : Nat} (h : B.length = L) (y : Bool × MO) : (B ++ ex).set L y = B ++ ex.set 0 y := by subst h; exact set_app0 y
structure RI (c L : Nat) (rs : List (N.ν × Fd N)) (k : Nat) (B ex : Sto) : Prop where
  hd : HasD c B
  len : B.length = L
  e0 : ex[0]? = some (false, .lst (rs.map eRow))
  e2 : ex[2]? = some (false, .lst [])
  ek : ex[k]? = some (false, .lst ((mvs rs).map eM))
  k0 : k ≠ 0
  k2 : k ≠ 2
  le : rs.length ≤ 10
  tg : ∀ p ∈ rs, p.2.tg.length ≤ 10
theorem mvs_len : ∀ {rs : List (N.ν × Fd N)}, rs.length ≤ 10 → (∀ p ∈ rs, p.2.tg.length ≤ 10) → (mvs rs).length ≤ 100 := by
  have : ∀ rs : List (N.ν × Fd N), (∀ p ∈ rs, p.2.tg.length ≤ 10) → (mvs rs).length ≤ 10 * rs.length := by
    intro rs
    induction rs with
    | nil => exact fun _ => Nat.le_refl _
    | cons p rs ih =>
      intro h
      show (p.2.tg.map (fun x => (p.1, x)) ++ mvs rs).length ≤ _
      rw [List.length_append, List.length_map, List.length_cons]
      have h1 := h p (by simp)
      have h2 := ih fun q hq => h q (List.mem_cons_of_mem _ hq)
      omega
  intro rs h1 h2
  have := this rs h2
  omega
theorem drawn_row {c L : Nat} {ns : List N.ν} (hns : ns.Nodup) (hn0 : 0 < ns.length) (hn : ns.length ≤ 8) {rs : List (N.ν × Fd N)} {k : Nat} {B ex : Sto} (I : RI c L rs k B ex) (hrs : rs.length < 8) (a : N.ν) (i : Int) (o1 o2 o9 o10 : Option T) :
    ∃ (f : Fd N) (ds : List Int) (ex' : Sto) (k' : Nat) (o9' : Option T), b__law_drawn_3 [some (.cell c), o1, o2, some (.tup (ns.map eN)), some (.cell L), some (.cell (L + k)), some (.cell (L + 2)), some (.int i), some (eN a), o9, o10] (B ++ ex) = .ok (.nx [some (.cell c), o1, o2, some (.tup (ns.map eN)), some (.cell L), some (.cell (L + k')), some (.cell (L + 2)), some (.int i), some (eN a), o9', o10]) (dr c ds B ++ ex') ∧ RI c L (rs ++ [(a, f)]) k' (dr c ds B) ex' ∧ f.Ok ∧ (∀ x ∈ f.tg, x ∈ ns) ∧ (i = 0 → f.go = false) := by
  have cL : c < B.length := I.hd.lt
  -- the aims
  obtain ⟨sel, d1, hsub, hc1⟩ := cLoop_sub (c := c) (g := gN 10) (cd := bOf (v2 hLt (vA F__law_take (aCons (vVar 0) (aCons (vA hLen (aCons (vVar 3) aNil)) aNil))) (vC (.int 2)))) (e := vVar 10) (ρ := [some (.cell c), o1, o2, some (.tup (ns.map eN)), some (.cell L), some (.cell (L + k)), some (.cell (L + 2)), some (.int i), some (eN a), o9, none]) (enc := eN) (h := eN) ns (B ++ ex) (I.hd.app ex) fun x hx => by
    refine ⟨_, rfl, fun ds' => ?_⟩
    obtain ⟨r, ds2, h1, _, _⟩ := f_take (dr c ds' (B ++ ex)) ((I.hd.app ex).dr ds') (ns.length : Int) (by omega)
    refine ⟨decide (r < 2), ds2, ?_, ?_⟩
    · rw [dr_dr] at h1
      simp only [sSeq, sAsg, sRet, sRetN, sIf, sNext, sBad, sExpr, vVar, vC, v1, v2, v3, vA, vM, aNil, aCons, bOf, bNot, bAnd, bOr, vAnd, vOr, vNot, vIf, bYes, gN, startL, z_ok, z_bad, noX_okE, List.map_cons, List.map_nil, List.length_cons, List.length_nil, List.cons_append, List.nil_append, List.getElem?_cons_zero, List.getElem?_cons_succ, List.set_cons_zero, List.set_cons_succ, List.replicate_succ, List.replicate_zero, Nat.reduceAdd, Nat.reduceSub, if_true, if_false, Bool.false_eq_true, Bool.true_eq_false, Bool.not_true, Bool.not_false, eq_self, true_and, and_true, and_self, Nat.reduceLT, Nat.reduceLeDiff, Bool.and_true, Bool.true_and, Bool.and_false, Bool.false_and, decide_true, decide_false, len_tup, List.length_map, h1, lt_int]
    · simp only [sSeq, sAsg, sRet, sRetN, sIf, sNext, sBad, sExpr, vVar, vC, v1, v2, v3, vA, vM, aNil, aCons, bOf, bNot, bAnd, bOr, vAnd, vOr, vNot, vIf, bYes, gN, startL, z_ok, z_bad, noX_okE, List.map_cons, List.map_nil, List.length_cons, List.length_nil, List.cons_append, List.nil_append, List.getElem?_cons_zero, List.getElem?_cons_succ, List.set_cons_zero, List.set_cons_succ, List.replicate_succ, List.replicate_zero, Nat.reduceAdd, Nat.reduceSub, if_true, if_false, Bool.false_eq_true, Bool.true_eq_false, Bool.not_true, Bool.not_false, eq_self, true_and, and_true, and_self, Nat.reduceLT, Nat.reduceLeDiff, Bool.and_true, Bool.true_and, Bool.and_false, Bool.false_and, decide_true, decide_false]
  have hq1 : q__law_drawn_1 [some (.cell c), o1, o2, some (.tup (ns.map eN)), some (.cell L), some (.cell (L + k)), some (.cell (L + 2)), some (.int i), some (eN a), o9, o10] (B ++ ex) = .ok (.lst (sel.map eN)) (dr c d1 (B ++ ex)) := by
    unfold q__law_drawn_1 vLc
    have l1 : (ns.map eN).length ≤ lim := by rw [List.length_map]; exact Nat.le_trans hn (by decide)
    simp only [iTupF, sSeq, sAsg, sRet, sRetN, sIf, sNext, sBad, sExpr, vVar, vC, v1, v2, v3, vA, vM, aNil, aCons, bOf, bNot, bAnd, bOr, vAnd, vOr, vNot, vIf, bYes, gN, startL, z_ok, z_bad, noX_okE, List.map_cons, List.map_nil, List.length_cons, List.length_nil, List.cons_append, List.nil_append, List.getElem?_cons_zero, List.getElem?_cons_succ, List.set_cons_zero, List.set_cons_succ, List.replicate_succ, List.replicate_zero, Nat.reduceAdd, Nat.reduceSub, if_true, if_false, Bool.false_eq_true, Bool.true_eq_false, Bool.not_true, Bool.not_false, eq_self, true_and, and_true, and_self, Nat.reduceLT, Nat.reduceLeDiff, Bool.and_true, Bool.true_and, Bool.and_false, Bool.false_and, decide_true, decide_false, asT, if_pos l1, wipeL, hc1]
  obtain ⟨r2, d2, h2, b2, _⟩ := f_take (dr c d1 (B ++ ex)) ((I.hd.app ex).dr d1) 2 (by decide)
  obtain ⟨r3, d3, h3, b3, b3'⟩ := f_take (dr c d2 (B ++ ex)) ((I.hd.app ex).dr d2) 2 (by decide)
  obtain ⟨r4, d4, h4, b4, _⟩ := f_take (dr c d3 (B ++ ex)) ((I.hd.app ex).dr d3) 4 (by decide)
  rw [dr_dr] at h2 h3 h4
  have nd : sel.Nodup := hns.sublist hsub
  have sl : sel.length ≤ 10 := Nat.le_trans hsub.length_le (Nat.le_trans hn (by decide))
  -- whether it is a goal
  have hgo : ∀ aims : List N.ν, ∃ (g : Bool) (d5 : List Int), (vAnd (v2 hGt (vVar 7) (vC (.int 0))) (v2 (hEqF true) (vA F__law_take (aCons (vVar 0) (aCons (vC (.int 4)) aNil))) (vC (.int 0)))) [some (.cell c), o1, o2, some (.tup (ns.map eN)), some (.cell L), some (.cell (L + k)), some (.cell (L + 2)), some (.int i), some (eN a), some (.lst (aims.map eN)), o10] (dr c d3 (B ++ ex)) = .ok (.bl g) (dr c d5 (B ++ ex)) ∧ (i = 0 → g = false) := by
      intro aims
      by_cases hi : 0 < i
      · exact ⟨decide (r4 = 0), d4, by simp only [sSeq, sAsg, sRet, sRetN, sIf, sNext, sBad, sExpr, vVar, vC, v1, v2, v3, vA, vM, aNil, aCons, bOf, bNot, bAnd, bOr, vAnd, vOr, vNot, vIf, bYes, gN, startL, z_ok, z_bad, noX_okE, List.map_cons, List.map_nil, List.length_cons, List.length_nil, List.cons_append, List.nil_append, List.getElem?_cons_zero, List.getElem?_cons_succ, List.set_cons_zero, List.set_cons_succ, List.replicate_succ, List.replicate_zero, Nat.reduceAdd, Nat.reduceSub, if_true, if_false, Bool.false_eq_true, Bool.true_eq_false, Bool.not_true, Bool.not_false, eq_self, true_and, and_true, and_self, Nat.reduceLT, Nat.reduceLeDiff, Bool.and_true, Bool.true_and, Bool.and_false, Bool.false_and, decide_true, decide_false, gt_int, hi, h4, eq_int], fun z => by omega⟩
      · exact ⟨false, d3, by simp only [sSeq, sAsg, sRet, sRetN, sIf, sNext, sBad, sExpr, vVar, vC, v1, v2, v3, vA, vM, aNil, aCons, bOf, bNot, bAnd, bOr, vAnd, vOr, vNot, vIf, bYes, gN, startL, z_ok, z_bad, noX_okE, List.map_cons, List.map_nil, List.length_cons, List.length_nil, List.cons_append, List.nil_append, List.getElem?_cons_zero, List.getElem?_cons_succ, List.set_cons_zero, List.set_cons_succ, List.replicate_succ, List.replicate_zero, Nat.reduceAdd, Nat.reduceSub, if_true, if_false, Bool.false_eq_true, Bool.true_eq_false, Bool.not_true, Bool.not_false, eq_self, true_and, and_true, and_self, Nat.reduceLT, Nat.reduceLeDiff, Bool.and_true, Bool.true_and, Bool.and_false, Bool.false_and, decide_true, decide_false, gt_int, decide_eq_false hi], fun _ => rfl⟩
  -- both ways of the aims at once
  have fin : ∀ (G : Fx) (aims : List N.ν), (∃ (g : Bool) (d5 : List Int), G [some (.cell c), o1, o2, some (.tup (ns.map eN)), some (.cell L), some (.cell (L + k)), some (.cell (L + 2)), some (.int i), some (eN a), some (.lst (aims.map eN)), o10] (dr c d3 (B ++ ex)) = .ok (.bl g) (dr c d5 (B ++ ex)) ∧ (i = 0 → g = false)) → aims.Nodup → (∀ x ∈ aims, x ∈ ns) → aims.length ≤ 10 → ∃ (f : Fd N) (ds : List Int) (ex' : Sto) (k' : Nat), (sSeq (sExpr (vAppend (vVar 4) (vA hTup (aCons (vVar 8) (aCons (v2 hAddF (vC (.int 1)) (vA F__law_take (aCons (vVar 0) (aCons (vC (.int 2)) aNil)))) (aCons (vA hTuple (aCons (vVar 9) aNil)) (aCons G aNil))))))) (sAsg (v2 hAddC (vVar 5) q__law_drawn_2) (gN 5))) [some (.cell c), o1, o2, some (.tup (ns.map eN)), some (.cell L), some (.cell (L + k)), some (.cell (L + 2)), some (.int i), some (eN a), some (.lst (aims.map eN)), o10] (dr c d2 (B ++ ex)) = .ok (.nx [some (.cell c), o1, o2, some (.tup (ns.map eN)), some (.cell L), some (.cell (L + k')), some (.cell (L + 2)), some (.int i), some (eN a), some (.lst (aims.map eN)), o10]) (dr c ds B ++ ex') ∧ RI c L (rs ++ [(a, f)]) k' (dr c ds B) ex' ∧ f.Ok ∧ (∀ x ∈ f.tg, x ∈ ns) ∧ (i = 0 → f.go = false) := by
    intro G aims ⟨g, d5, hg, hg0⟩ na sa la
    have pr : pur (eRow (a, (⟨1 + r3, aims, g⟩ : Fd N))) = true := pur_eRow _
    have s1 : dr c d5 (B ++ ex) = dr c d5 B ++ ex := dr_app cL d5 ex
    have l5 : (dr c d5 B).length = L := (dr_len c d5 B).trans I.len
    have l2 : (dr c d2 B).length = L := (dr_len c d2 B).trans I.len
    have lu : isLu (dr c d2 (B ++ ex)) (.cell L) = true := by
      rw [dr_app cL]
      exact lu_at (by rw [get_appL0 l2]; exact I.e0)
    have ap : hAppend (.cell L) (eRow (a, (⟨1 + r3, aims, g⟩ : Fd N))) (dr c d5 (B ++ ex)) = .ok .non (dr c d5 B ++ ex.set 0 (false, .lst ((rs ++ [(a, (⟨1 + r3, aims, g⟩ : Fd N))]).map eRow))) := by
      rw [s1, append_at (by rw [get_appL0 l5]; exact I.e0) pr (by rw [List.length_map]; exact Nat.lt_of_lt_of_le hrs (by decide)), set_appL0 l5, List.map_append]
      rfl
    have ex0 : 0 < ex.length := (List.getElem?_eq_some_iff.mp I.e0).1
    have q2 : q__law_drawn_2 [some (.cell c), o1, o2, some (.tup (ns.map eN)), some (.cell L), some (.cell (L + k)), some (.cell (L + 2)), some (.int i), some (eN a), some (.lst (aims.map eN)), o10] (dr c d5 B ++ ex.set 0 (false, .lst ((rs ++ [(a, (⟨1 + r3, aims, g⟩ : Fd N))]).map eRow))) = .ok (.lst ((aims.map fun x => (a, x)).map eM)) (dr c d5 B ++ ex.set 0 (false, .lst ((rs ++ [(a, (⟨1 + r3, aims, g⟩ : Fd N))]).map eRow))) := by
      unfold q__law_drawn_2
      rw [vLc_goA (s := dr c d5 B ++ ex.set 0 (false, .lst ((rs ++ [(a, (⟨1 + r3, aims, g⟩ : Fd N))]).map eRow))) (l := aims) (enc := eN) (h := fun x => eM (a, x)) (by simp only [iSeq, sSeq, sAsg, sRet, sRetN, sIf, sNext, sBad, sExpr, vVar, vC, v1, v2, v3, vA, vM, aNil, aCons, bOf, bNot, bAnd, bOr, vAnd, vOr, vNot, vIf, bYes, gN, startL, z_ok, z_bad, noX_okE, List.map_cons, List.map_nil, List.length_cons, List.length_nil, List.cons_append, List.nil_append, List.getElem?_cons_zero, List.getElem?_cons_succ, List.set_cons_zero, List.set_cons_succ, List.replicate_succ, List.replicate_zero, Nat.reduceAdd, Nat.reduceSub, if_true, if_false, Bool.false_eq_true, Bool.true_eq_false, Bool.not_true, Bool.not_false, eq_self, true_and, and_true, and_self, Nat.reduceLT, Nat.reduceLeDiff, Bool.and_true, Bool.true_and, Bool.and_false, Bool.false_and, decide_true, decide_false]) (Nat.le_trans la (by decide)) fun x hx => ⟨_, rfl, by simp only [sSeq, sAsg, sRet, sRetN, sIf, sNext, sBad, sExpr, vVar, vC, v1, v2, v3, vA, vM, aNil, aCons, bOf, bNot, bAnd, bOr, vAnd, vOr, vNot, vIf, bYes, gN, startL, z_ok, z_bad, noX_okE, List.map_cons, List.map_nil, List.length_cons, List.length_nil, List.cons_append, List.nil_append, List.getElem?_cons_zero, List.getElem?_cons_succ, List.set_cons_zero, List.set_cons_succ, List.replicate_succ, List.replicate_zero, Nat.reduceAdd, Nat.reduceSub, if_true, if_false, Bool.false_eq_true, Bool.true_eq_false, Bool.not_true, Bool.not_false, eq_self, true_and, and_true, and_self, Nat.reduceLT, Nat.reduceLeDiff, Bool.and_true, Bool.true_and, Bool.and_false, Bool.false_and, decide_true, decide_false, wipeL, hTup, if_pos lim2]; rfl⟩, List.map_map]
      rfl
    have ek' : (dr c d5 B ++ ex.set 0 (false, .lst ((rs ++ [(a, (⟨1 + r3, aims, g⟩ : Fd N))]).map eRow)))[L + k]? = some (false, .lst ((mvs rs).map eM)) := by
      rw [get_appL l5, List.getElem?_set_ne (Ne.symm I.k0)]
      exact I.ek
    have ml := mvs_len I.le I.tg
    have ac := addC_ok (b := .lst ((aims.map fun x => (a, x)).map eM)) (aslf_at ek') rfl (by rw [List.length_map, List.length_map, List.length_map]; exact Nat.le_trans (show _ ≤ 110 by omega) (by decide)) (purs_map pur_eM _) (purs_map pur_eM _)
    have elen : (dr c d5 B ++ ex.set 0 (false, .lst ((rs ++ [(a, (⟨1 + r3, aims, g⟩ : Fd N))]).map eRow))).length = L + ex.length := by rw [List.length_append, l5, List.length_set]
    have ex2 : 2 < ex.length := (List.getElem?_eq_some_iff.mp I.e2).1
    refine ⟨⟨1 + r3, aims, g⟩, d5, ex.set 0 (false, .lst ((rs ++ [(a, (⟨1 + r3, aims, g⟩ : Fd N))]).map eRow)) ++ [(false, .lst ((mvs (rs ++ [(a, (⟨1 + r3, aims, g⟩ : Fd N))])).map eM))], ex.length, ?_, ⟨I.hd.dr d5, l5, ?_, ?_, ?_, by omega, by omega, ?_, ?_⟩, ⟨?_, na⟩, sa, hg0⟩
    · rw [show (mvs (rs ++ [(a, (⟨1 + r3, aims, g⟩ : Fd N))])).map eM = (mvs rs).map eM ++ (aims.map fun x => (a, x)).map eM by rw [mvs_app, List.map_append], ← List.append_assoc]
      rw [elen] at ac
      have tu : hTuple [.lst (aims.map eN)] (dr c d3 (B ++ ex)) = .ok (.tup (aims.map eN)) (dr c d3 (B ++ ex)) := rfl
      have l4 : (4 : Nat) ≤ lim := by decide
      have ap2 : hAppend (.cell L) (.tup [eN a, .int (1 + r3), .tup (aims.map eN), .bl g]) (dr c d5 (B ++ ex)) = _ := ap
      simp only [sSeq, sAsg, sRet, sRetN, sIf, sNext, sBad, sExpr, vVar, vC, v1, v2, v3, vA, vM, aNil, aCons, bOf, bNot, bAnd, bOr, vAnd, vOr, vNot, vIf, bYes, gN, startL, z_ok, z_bad, noX_okE, List.map_cons, List.map_nil, List.length_cons, List.length_nil, List.cons_append, List.nil_append, List.getElem?_cons_zero, List.getElem?_cons_succ, List.set_cons_zero, List.set_cons_succ, List.replicate_succ, List.replicate_zero, Nat.reduceAdd, Nat.reduceSub, if_true, if_false, Bool.false_eq_true, Bool.true_eq_false, Bool.not_true, Bool.not_false, eq_self, true_and, and_true, and_self, Nat.reduceLT, Nat.reduceLeDiff, Bool.and_true, Bool.true_and, Bool.and_false, Bool.false_and, decide_true, decide_false, vAppend, lu, h3, add_int, tu, hg, hTup, if_pos l4, ap2, q2, ac]
    · rw [List.getElem?_append_left (by rw [List.length_set]; exact ex0), List.getElem?_set_self ex0]
    · rw [List.getElem?_append_left (by rw [List.length_set]; exact ex2), List.getElem?_set_ne (by decide)]
      exact I.e2
    · rw [List.getElem?_append_right (by rw [List.length_set]; exact Nat.le_refl _), List.length_set, Nat.sub_self]
      rfl
    · rw [List.length_append]
      show rs.length + 1 ≤ 10
      omega
    · intro p hp
      rcases List.mem_append.mp hp with hp | hp
      · exact I.tg p hp
      · have : p = (a, (⟨1 + r3, aims, g⟩ : Fd N)) := by simpa using hp
        subst this
        exact la
    · show 1 + r3 = 1 ∨ 1 + r3 = 2
      omega
  unfold b__law_drawn_3
  by_cases hr : r2 = 0
  · obtain ⟨f, ds, ex', k', h5, h6⟩ := fin _ sel.reverse (hgo _) ((List.reverse_perm sel).nodup_iff.mpr nd) (fun x hx => hsub.subset (List.mem_reverse.mp hx)) (by rw [List.length_reverse]; exact sl)
    refine ⟨f, ds, ex', k', some (.lst (sel.reverse.map eN)), ?_, h6⟩
    have rv : ∀ s, asL s (.lst (sel.map eN)) = some (sel.map eN) := fun _ => rfl
    rw [show (sSeq (sAsg q__law_drawn_1 (gN 9)) _) = _ from rfl]
    unfold sSeq at h5 ⊢
    simp only [sSeq, sAsg, sRet, sRetN, sIf, sNext, sBad, sExpr, vVar, vC, v1, v2, v3, vA, vM, aNil, aCons, bOf, bNot, bAnd, bOr, vAnd, vOr, vNot, vIf, bYes, gN, startL, z_ok, z_bad, noX_okE, List.map_cons, List.map_nil, List.length_cons, List.length_nil, List.cons_append, List.nil_append, List.getElem?_cons_zero, List.getElem?_cons_succ, List.set_cons_zero, List.set_cons_succ, List.replicate_succ, List.replicate_zero, Nat.reduceAdd, Nat.reduceSub, if_true, if_false, Bool.false_eq_true, Bool.true_eq_false, Bool.not_true, Bool.not_false, eq_self, true_and, and_true, and_self, Nat.reduceLT, Nat.reduceLeDiff, Bool.and_true, Bool.true_and, Bool.and_false, Bool.false_and, decide_true, decide_false, hq1, h2, eq_int, hr, vRev, rv, ← List.map_reverse] at h5 ⊢
    exact h5
  · obtain ⟨f, ds, ex', k', h5, h6⟩ := fin _ sel (hgo _) nd (fun x hx => hsub.subset hx) sl
    refine ⟨f, ds, ex', k', some (.lst (sel.map eN)), ?_, h6⟩
    unfold sSeq at h5 ⊢
    simp only [sSeq, sAsg, sRet, sRetN, sIf, sNext, sBad, sExpr, vVar, vC, v1, v2, v3, vA, vM, aNil, aCons, bOf, bNot, bAnd, bOr, vAnd, vOr, vNot, vIf, bYes, gN, startL, z_ok, z_bad, noX_okE, List.map_cons, List.map_nil, List.length_cons, List.length_nil, List.cons_append, List.nil_append, List.getElem?_cons_zero, List.getElem?_cons_succ, List.set_cons_zero, List.set_cons_succ, List.replicate_succ, List.replicate_zero, Nat.reduceAdd, Nat.reduceSub, if_true, if_false, Bool.false_eq_true, Bool.true_eq_false, Bool.not_true, Bool.not_false, eq_self, true_and, and_true, and_self, Nat.reduceLT, Nat.reduceLeDiff, Bool.and_true, Bool.true_and, Bool.and_false, Bool.false_and, decide_true, decide_false, hq1, h2, eq_int, decide_eq_false hr] at h5 ⊢
    exact h5

/-- what the rows keep -/
def ROk (ns : List N.ν) (rs : List (N.ν × Fd N)) : Prop := ∀ p ∈ rs, p.2.Ok ∧ ∀ x ∈ p.2.tg, x ∈ ns
theorem drawn_rows {c L : Nat} {ns : List N.ν} (hns : ns.Nodup) (hn0 : 0 < ns.length) (hn : ns.length ≤ 8) (o1 o2 o10 : Option T) : ∀ (r : List N.ν) (i : Nat) (rs : List (N.ν × Fd N)) (k : Nat) (B ex : Sto) (o7 o8 o9 : Option T), RI c L rs k B ex → rs.length + r.length ≤ 8 → ROk ns rs →
    ∃ (rs' : List (N.ν × Fd N)) (ds : List Int) (ex' : Sto) (k' : Nat) (o7' o8' o9' : Option T), loop (gT [(gN 7), (gN 8)]) b__law_drawn_3 (enumT i (r.map eN)) [some (.cell c), o1, o2, some (.tup (ns.map eN)), some (.cell L), some (.cell (L + k)), some (.cell (L + 2)), o7, o8, o9, o10] (B ++ ex) = .ok (.nx [some (.cell c), o1, o2, some (.tup (ns.map eN)), some (.cell L), some (.cell (L + k')), some (.cell (L + 2)), o7', o8', o9', o10]) (dr c ds B ++ ex') ∧ RI c L rs' k' (dr c ds B) ex' ∧ rs'.map (·.1) = rs.map (·.1) ++ r ∧ ROk ns rs'
  | [], i, rs, k, B, ex, o7, o8, o9, I, _, ok => by
    obtain ⟨ds, hd⟩ := I.hd
    have e : dr c ds B = B := set_same hd
    exact ⟨rs, ds, ex, k, o7, o8, o9, by rw [e]; rfl, by rw [e]; exact I, by simp, ok⟩
  | a :: r, i, rs, k, B, ex, o7, o8, o9, I, hl, ok => by
    rw [List.length_cons] at hl
    obtain ⟨f, d1, ex1, k1, p9, h1, I1, fo, fs, _⟩ := drawn_row hns hn0 hn I (by omega) a (i : Int) o1 o2 o9 o10
    have ok1 : ROk ns (rs ++ [(a, f)]) := fun p hp => by
      rcases List.mem_append.mp hp with hp | hp
      · exact ok p hp
      · have : p = (a, f) := by simpa using hp
        subst this
        exact ⟨fo, fs⟩
    obtain ⟨rs', d2, ex2, k2, q7, q8, q9, h2, I2, e2, ok2⟩ := drawn_rows hns hn0 hn o1 o2 o10 r (i + 1) (rs ++ [(a, f)]) k1 (dr c d1 B) ex1 (some (.int (i : Nat))) (some (eN a)) p9 I1 (by rw [List.length_append, List.length_singleton]; omega) ok1
    rw [dr_dr] at h2 I2
    refine ⟨rs', d2, ex2, k2, q7, q8, q9, ?_, I2, by rw [e2, List.map_append, List.append_assoc]; rfl, ok2⟩
    rw [List.map_cons]
    unfold enumT
    rw [loop_step rfl h1]
    exact h2
/-- the prices: some moves taken out of the others -/
structure FI (c L : Nat) (all : List (Mv N)) (k : Nat) (ev : List (Mv N)) (fs : List (Mv N × Int)) (B ex : Sto) : Prop where
  hd : HasD c B
  len : B.length = L
  e2 : ex[2]? = some (false, .lst (fs.map eFee))
  ek : ex[k]? = some (false, .lst (ev.map eM))
  k0 : k ≠ 0
  k2 : k ≠ 2
  nd : (fs.map (·.1) ++ ev).Nodup
  sub : ∀ m ∈ fs.map (·.1) ++ ev, m ∈ all
  cost : ∀ p ∈ fs, 1 ≤ p.2 ∧ p.2 ≤ 9
  few : ev.length ≤ 100
theorem erase_map {α β : Type} (f : α → β) : ∀ (l : List α) (i : Nat), (l.map f).eraseIdx i = (l.eraseIdx i).map f
  | [], _ => rfl
  | _ :: _, 0 => rfl
  | a :: l, i + 1 => by
    show f a :: (l.map f).eraseIdx i = f a :: (l.eraseIdx i).map f
    rw [erase_map f l i]
theorem erase_perm {α : Type} : ∀ {l : List α} {i : Nat} (h : i < l.length), (l[i] :: l.eraseIdx i).Perm l
  | a :: l, 0, _ => List.Perm.refl _
  | a :: l, i + 1, h => by
    have h' : i < l.length := by simpa using h
    have := erase_perm (l := l) (i := i) h'
    show (l[i] :: a :: l.eraseIdx i).Perm (a :: l)
    exact (List.Perm.swap a l[i] _).trans (this.cons a)
theorem drawn_fee {c L : Nat} {all : List (Mv N)} {k : Nat} {ev : List (Mv N)} {fs : List (Mv N × Int)} {B ex : Sto} (I : FI c L all k ev fs B ex) (hfs : fs.length < 100) (t2 t3 o7 o8 o9 o10 : Option T) (o1 : Option T) :
    ∃ (ev' : List (Mv N)) (fs' : List (Mv N × Int)) (ds : List Int) (ex' : Sto), b__law_drawn_4 [some (.cell c), o1, t2, t3, some (.cell L), some (.cell (L + k)), some (.cell (L + 2)), o7, o8, o9, o10] (B ++ ex) = .ok (.nx [some (.cell c), o1, t2, t3, some (.cell L), some (.cell (L + k)), some (.cell (L + 2)), o7, o8, o9, o10]) (dr c ds B ++ ex') ∧ FI c L all k ev' fs' (dr c ds B) ex' ∧ fs'.length ≤ fs.length + 1 ∧ ex'[0]? = ex[0]? := by
  have cL : c < B.length := I.hd.lt
  have gk : (B ++ ex)[L + k]? = some (false, .lst (ev.map eM)) := by rw [get_appL I.len]; exact I.ek
  have py : toPyF (B ++ ex) (.cell (L + k)) = some (.list (ev.map Enc.d)) := by
    unfold toPyF
    simp only [gk]
    rw [show (ev.map eM) = ev.map Enc.t from rfl, toPys_enc]
    rfl
  have hne : hEqF false (.cell (L + k)) (.lst []) (B ++ ex) = .ok (.bl (!decide (ev = []))) (B ++ ex) := by
    unfold hEqF
    rw [py, show toPyF (B ++ ex) (.lst []) = some (.list (([] : List (Mv N)).map Enc.d)) from rfl]
    have s1 := shapeds_enc ev (show max 0 0 + 1 ≤ 60 by decide)
    have s2 := shapeds_enc ([] : List (Mv N)) (show max 0 0 + 1 ≤ 60 by decide)
    simp only [s1, s2, Bool.and_self, if_true]
    have := Enc.eq (α := List (Mv N)) ev []
    rw [show PyData.eqv (.list (ev.map Enc.d)) (.list (([] : List (Mv N)).map Enc.d)) = decide (ev = []) from this]
    rfl
  cases hev : ev with
  | nil =>
    subst hev
    obtain ⟨ds, hd⟩ := id I.hd
    have e : dr c ds B = B := set_same hd
    refine ⟨[], fs, ds, ex, ?_, by rw [e]; exact I, by omega, rfl⟩
    rw [e]
    unfold b__law_drawn_4
    simp only [sSeq, sAsg, sRet, sRetN, sIf, sNext, sBad, sExpr, vVar, vC, v1, v2, v3, vA, vM, aNil, aCons, bOf, bNot, bAnd, bOr, vAnd, vOr, vNot, vIf, bYes, gN, startL, z_ok, z_bad, noX_okE, List.map_cons, List.map_nil, List.length_cons, List.length_nil, List.cons_append, List.nil_append, List.getElem?_cons_zero, List.getElem?_cons_succ, List.set_cons_zero, List.set_cons_succ, List.replicate_succ, List.replicate_zero, Nat.reduceAdd, Nat.reduceSub, if_true, if_false, Bool.false_eq_true, Bool.true_eq_false, Bool.not_true, Bool.not_false, eq_self, true_and, and_true, and_self, Nat.reduceLT, Nat.reduceLeDiff, Bool.and_true, Bool.true_and, Bool.and_false, Bool.false_and, decide_true, decide_false, hLst, Nat.zero_le, hne]
  | cons m0 ev0 =>
    obtain ⟨j, d1, h1, j0, j1⟩ := f_take (B ++ ex) (I.hd.app ex) (ev.length : Int) (by rw [hev]; simp)
    have hj : j.toNat < ev.length := by omega
    have s1 : dr c d1 (B ++ ex) = dr c d1 B ++ ex := dr_app cL d1 ex
    have l1 : (dr c d1 B).length = L := (dr_len c d1 B).trans I.len
    have hx : (ev.map eM)[j.toNat]? = some (eM ev[j.toNat]) := by rw [List.getElem?_map, List.getElem?_eq_getElem hj]; rfl
    have gk1 : (dr c d1 B ++ ex)[L + k]? = some (false, .lst (ev.map eM)) := by rw [get_appL l1]; exact I.ek
    have pop : hPopAt (.cell (L + k)) (.int j) (dr c d1 (B ++ ex)) = .ok (eM ev[j.toNat]) (dr c d1 B ++ ex.set k (false, .lst ((ev.eraseIdx j.toNat).map eM))) := by
      have few := I.few
      rw [s1, popAt_ok gk1 j0 (by omega) hx, set_appL l1, erase_map]
    have kex : k < ex.length := (List.getElem?_eq_some_iff.mp I.ek).1
    have ex2 : 2 < ex.length := (List.getElem?_eq_some_iff.mp I.e2).1
    have hd1 : HasD c (dr c d1 B ++ ex.set k (false, .lst ((ev.eraseIdx j.toNat).map eM))) := (I.hd.dr d1).app _
    obtain ⟨r, d2, h2, r0, r1⟩ := f_take (dr c d1 B ++ ex.set k (false, .lst ((ev.eraseIdx j.toNat).map eM))) hd1 9 (by decide)
    have s2 : dr c d2 (dr c d1 B ++ ex.set k (false, .lst ((ev.eraseIdx j.toNat).map eM))) = dr c d2 B ++ ex.set k (false, .lst ((ev.eraseIdx j.toNat).map eM)) := by rw [dr_app (by rw [dr_len]; exact cL), dr_dr]
    rw [s2] at h2
    have l2 : (dr c d2 B).length = L := (dr_len c d2 B).trans I.len
    have lu1 : isLu (B ++ ex) (.cell (L + 2)) = true := lu_at (by rw [get_appL I.len]; exact I.e2)
    have lu2 : isLu (B ++ ex) (.cell (L + k)) = true := lu_at gk
    have ap : hAppend (.cell (L + 2)) (eFee (ev[j.toNat], 1 + r)) (dr c d2 B ++ ex.set k (false, .lst ((ev.eraseIdx j.toNat).map eM))) = .ok .non (dr c d2 B ++ (ex.set k (false, .lst ((ev.eraseIdx j.toNat).map eM))).set 2 (false, .lst ((fs ++ [(ev[j.toNat], 1 + r)]).map eFee))) := by
      rw [append_at (by rw [get_appL l2, List.getElem?_set_ne I.k2]; exact I.e2) (pur_eFee _) (by rw [List.length_map]; exact Nat.lt_trans hfs (by decide)), set_appL l2, List.map_append]
      rfl
    have pm : (ev[j.toNat] :: ev.eraseIdx j.toNat).Perm ev := erase_perm hj
    have pm2 : ((fs ++ [(ev[j.toNat], 1 + r)]).map (·.1) ++ ev.eraseIdx j.toNat).Perm (fs.map (·.1) ++ ev) := by
      rw [List.map_append, List.append_assoc]
      exact List.Perm.append_left _ pm
    refine ⟨ev.eraseIdx j.toNat, fs ++ [(ev[j.toNat], 1 + r)], d2, (ex.set k (false, .lst ((ev.eraseIdx j.toNat).map eM))).set 2 (false, .lst ((fs ++ [(ev[j.toNat], 1 + r)]).map eFee)), ?_, ⟨I.hd.dr d2, l2, ?_, ?_, I.k0, I.k2, pm2.nodup_iff.mpr I.nd, fun m hm => I.sub m (pm2.mem_iff.mp hm), ?_, ?_⟩, by rw [List.length_append]; exact Nat.le_refl _, ?_⟩
    · have ap2 : hAppend (.cell (L + 2)) (.tup [eM ev[j.toNat], .int (1 + r)]) (dr c d2 B ++ ex.set k (false, .lst ((ev.eraseIdx j.toNat).map eM))) = _ := ap
      have hle : hLen [.cell (L + k)] (B ++ ex) = .ok (.int (ev.length : Int)) (B ++ ex) := by
        unfold hLen asL
        simp only [gk, List.length_map]
      have hnn : decide (ev = []) = false := by rw [hev]; rfl
      unfold b__law_drawn_4
      simp only [sSeq, sAsg, sRet, sRetN, sIf, sNext, sBad, sExpr, vVar, vC, v1, v2, v3, vA, vM, aNil, aCons, bOf, bNot, bAnd, bOr, vAnd, vOr, vNot, vIf, bYes, gN, startL, z_ok, z_bad, noX_okE, List.map_cons, List.map_nil, List.length_cons, List.length_nil, List.cons_append, List.nil_append, List.getElem?_cons_zero, List.getElem?_cons_succ, List.set_cons_zero, List.set_cons_succ, List.replicate_succ, List.replicate_zero, Nat.reduceAdd, Nat.reduceSub, if_true, if_false, Bool.false_eq_true, Bool.true_eq_false, Bool.not_true, Bool.not_false, eq_self, true_and, and_true, and_self, Nat.reduceLT, Nat.reduceLeDiff, Bool.and_true, Bool.true_and, Bool.and_false, Bool.false_and, decide_true, decide_false, hLst, Nat.zero_le, hne, hnn, vAppend, lu1, vPopAt, lu2, hle, h1, pop, h2, add_int, hTup, if_pos lim2, ap2]
    · rw [List.getElem?_set_self (by rw [List.length_set]; exact ex2)]
    · rw [List.getElem?_set_ne (Ne.symm I.k2), List.getElem?_set_self kex]
    · intro p hp
      rcases List.mem_append.mp hp with hp | hp
      · exact I.cost p hp
      · have : p = (ev[j.toNat], 1 + r) := by simpa using hp
        subst this
        show 1 ≤ 1 + r ∧ 1 + r ≤ 9
        omega
    · have := len_erase ev j.toNat
      have := I.few
      omega
    · rw [List.getElem?_set_ne (by decide), List.getElem?_set_ne I.k0]
theorem drawn_fees {c L : Nat} {all : List (Mv N)} {k : Nat} (t3 o7 o8 o9 o10 o1 : Option T) : ∀ (n : Nat) (i : Int) (ev : List (Mv N)) (fs : List (Mv N × Int)) (B ex : Sto) (t2 : Option T), FI c L all k ev fs B ex → fs.length + n ≤ 100 →
    ∃ (ev' : List (Mv N)) (fs' : List (Mv N × Int)) (ds : List Int) (ex' : Sto) (t2' : Option T), loop (gN 2) b__law_drawn_4 (rngT i n) [some (.cell c), o1, t2, t3, some (.cell L), some (.cell (L + k)), some (.cell (L + 2)), o7, o8, o9, o10] (B ++ ex) = .ok (.nx [some (.cell c), o1, t2', t3, some (.cell L), some (.cell (L + k)), some (.cell (L + 2)), o7, o8, o9, o10]) (dr c ds B ++ ex') ∧ FI c L all k ev' fs' (dr c ds B) ex' ∧ fs'.length ≤ fs.length + n ∧ ex'[0]? = ex[0]?
  | 0, i, ev, fs, B, ex, t2, I, _ => by
    obtain ⟨ds, hd⟩ := I.hd
    have e : dr c ds B = B := set_same hd
    exact ⟨ev, fs, ds, ex, t2, by rw [e]; rfl, by rw [e]; exact I, Nat.le_refl _, rfl⟩
  | n + 1, i, ev, fs, B, ex, t2, I, hl => by
    obtain ⟨ev1, fs1, d1, ex1, h1, I1, l1, e1⟩ := drawn_fee I (by omega) (some (.int i)) t3 o7 o8 o9 o10 o1
    obtain ⟨ev2, fs2, d2, ex2, t2', h2, I2, l2, e2⟩ := drawn_fees t3 o7 o8 o9 o10 o1 n (i + 1) ev1 fs1 (dr c d1 B) ex1 (some (.int i)) I1 (by omega)
    rw [dr_dr] at h2 I2
    refine ⟨ev2, fs2, d2, ex2, t2', ?_, I2, by omega, e2.trans e1⟩
    unfold rngT
    rw [loop_step rfl h1]
    exact h2

end
/-- the six names -/
def all6 : List N6.ν := ([0, 1, 2, 3, 4, 5] : List (Fin 6))
theorem cut6 (r : Int) (h : 0 ≤ r ∧ r < 5) (s : Sto) : (vSlF (vA hTup (aCons (vC (.str "b")) (aCons (vC (.str "a")) (aCons (vC (.str "mid")) (aCons (vC (.str "end")) (aCons (vC (.str "c")) (aCons (vC (.str "far")) aNil))))))) oNone (fun _ s' => .ok (some (2 + r)) s')) = fun _ s => .ok (.tup ((all6.take (2 + r).toNat).map eN)) s := by
  have : r = 0 ∨ r = 1 ∨ r = 2 ∨ r = 3 ∨ r = 4 := by omega
  funext ρ s
  rcases this with rfl | rfl | rfl | rfl | rfl <;> rfl
theorem f_drawn (st : Sto) {c : Nat} (h : HasD c st) : ∃ (b : Bd N6) (ds : List Int), F__law_drawn [.cell c, .int 4] st = .ok (ePlan b) (dr c ds st) ∧ b.Ok ∧ b.ps.length ≤ 4 ∧ b.fs.length ≤ 6 ∧ 2 ≤ b.fs.length := by
  have cL := h.lt
  obtain ⟨r0, d0, h0, a0, a1⟩ := f_take st h 5 (by decide)
  have nsl : (all6.take (2 + r0).toNat).length = (2 + r0).toNat := by
    rw [List.length_take, show all6.length = 6 from rfl]
    omega
  have nnd : (all6.take (2 + r0).toNat).Nodup := (show all6.Nodup by decide).sublist (List.take_sublist _ _)
  generalize hns : all6.take (2 + r0).toNat = ns at nsl nnd
  have I0 : RI (N := N6) c st.length [] 1 (dr c d0 st) [(false, .lst []), (false, .lst []), (false, .lst [])] := ⟨h.dr d0, dr_len c d0 st, rfl, rfl, rfl, by decide, by decide, by decide, fun _ z => nomatch z⟩
  obtain ⟨rs, d1, ex1, k1, o7, o8, o9, h1, I1, e1, ok1⟩ := drawn_rows (N := N6) (c := c) (L := st.length) nnd (by omega) (by omega) (some (.int 4)) none none ns 0 [] 1 (dr c d0 st) _ none none none I0 (by simp; omega) (fun _ z => nomatch z)
  rw [dr_dr] at h1 I1
  rw [List.map_nil, List.nil_append] at e1
  have rnd : (rs.map (·.1)).Nodup := by rw [e1]; exact nnd
  have rlen : rs.length = ns.length := by rw [← e1, List.length_map]
  have F0 : FI (N := N6) c st.length (mvs rs) k1 (mvs rs) [] (dr c d1 st) ex1 := ⟨I1.hd, I1.len, I1.e2, I1.ek, I1.k0, I1.k2, by
    rw [List.map_nil, List.nil_append]
    exact mvs_nodup rnd fun p hp => (ok1 p hp).1.2, fun m hm => by simpa using hm, (fun _ z => nomatch z), mvs_len I1.le I1.tg⟩
  obtain ⟨r2, d2, h2, a2, a3⟩ := f_take (dr c d1 st ++ ex1) (I1.hd.app ex1) 5 (by decide)
  have s2 : dr c d2 (dr c d1 st ++ ex1) = dr c d2 st ++ ex1 := by rw [dr_app (by rw [dr_len]; exact cL), dr_dr]
  rw [s2] at h2
  have F1 : FI (N := N6) c st.length (mvs rs) k1 (mvs rs) [] (dr c d2 st) ex1 := ⟨h.dr d2, dr_len c d2 st, F0.e2, F0.ek, F0.k0, F0.k2, F0.nd, F0.sub, F0.cost, F0.few⟩
  obtain ⟨ev, fs, d3, ex3, t2, h3, F3, lf, e3⟩ := drawn_fees (some (.tup (ns.map eN))) o7 o8 o9 none (some (.int 4)) r2.toNat 0 (mvs rs) [] (dr c d2 st) ex1 none F1 (by simp; omega)
  rw [dr_dr] at h3 F3
  obtain ⟨r4, d4, h4, a4, a5⟩ := f_take (dr c d3 st ++ ex3) (F3.hd.app ex3) 2 (by decide)
  have s4 : dr c d4 (dr c d3 st ++ ex3) = dr c d4 st ++ ex3 := by rw [dr_app (by rw [dr_len]; exact cL), dr_dr]
  rw [s4] at h4
  have hr4 : r4.toNat < ns.length := by omega
  have hx : atI (ns.map eN) r4 = some (eN ns[r4.toNat]) := by
    have := atI_nat (xs := ns.map eN) (j := r4.toNat) (v := eN ns[r4.toNat]) (by rw [List.getElem?_map, List.getElem?_eq_getElem hr4]; rfl)
    rw [Int.toNat_of_nonneg a4] at this
    exact this
  refine ⟨⟨rs, ns[r4.toNat], fs⟩, d4, ?_, ?_, ?_, ?_, ?_⟩
  · have g0 : (dr c d4 st ++ ex3)[st.length]? = some (false, .lst (rs.map eRow)) := by rw [get_appL0 (dr_len c d4 st), e3]; exact I1.e0
    have g2 : (dr c d4 st ++ ex3)[st.length + 2]? = some (false, .lst (fs.map eFee)) := by rw [get_appL (dr_len c d4 st)]; exact F3.e2
    have hfz : fz fnX st.length (dr c d4 st ++ ex3) (.tup [.cell st.length, eN ns[r4.toNat], .cell (st.length + 2)]) = some (ePlan ⟨rs, ns[r4.toNat], fs⟩) := by
      have n1 : ¬ (st.length + 2 < st.length) := by omega
      simp only [fz, fzs, eN, Nat.lt_irrefl, if_false, g0, n1, g2]
      rfl
    refine defF_fz (st' := dr c d4 st) (ex := ex3) rfl ?_ (dr_len c d4 st) hfz
    have sl := cut6 r0 ⟨a0, a1⟩
    have l4 : (4 : Nat) ≤ lim := by decide
    have l6 : (6 : Nat) ≤ lim := by decide
    have hv : (vSlF (vA hTup (aCons (vC (.str "b")) (aCons (vC (.str "a")) (aCons (vC (.str "mid")) (aCons (vC (.str "end")) (aCons (vC (.str "c")) (aCons (vC (.str "far")) aNil))))))) oNone (oSome (v2 hAddF (vC (.int 2)) (vA F__law_take (aCons (vVar 0) (aCons (vC (.int 5)) aNil)))))) [some (.cell c), some (.int 4), none, none, none, none, none, none, none, none, none] st = .ok (.tup (ns.map eN)) (dr c d0 st) := by
      have hs := congrFun (congrFun (sl st) [some (.cell c), some (.int 4), none, none, none, none, none, none, none, none, none]) (dr c d0 st)
      rw [hns] at hs
      rw [← hs]
      unfold vSlF
      simp only [sSeq, sAsg, sRet, sRetN, sIf, sNext, sBad, sExpr, vVar, vC, v1, v2, v3, vA, vM, aNil, aCons, bOf, bNot, bAnd, bOr, vAnd, vOr, vNot, vIf, bYes, gN, startL, z_ok, z_bad, noX_okE, List.map_cons, List.map_nil, List.length_cons, List.length_nil, List.cons_append, List.nil_append, List.getElem?_cons_zero, List.getElem?_cons_succ, List.set_cons_zero, List.set_cons_succ, List.replicate_succ, List.replicate_zero, Nat.reduceAdd, Nat.reduceSub, if_true, if_false, Bool.false_eq_true, Bool.true_eq_false, Bool.not_true, Bool.not_false, eq_self, true_and, and_true, and_self, Nat.reduceLT, Nat.reduceLeDiff, Bool.and_true, Bool.true_and, Bool.and_false, Bool.false_and, decide_true, decide_false, hTup, if_pos l6, oNone, oSome, h0, add_int]
    have rg : rgOk r2 = true := by
      unfold rgOk rgB
      simp
      omega
    have hl1 : ∀ s : Sto, [(false, MO.lst ([] : List T))] ++ [(false, MO.lst [])] ++ [(false, MO.lst [])] = [(false, MO.lst []), (false, MO.lst []), (false, MO.lst [])] := fun _ => rfl
    unfold b__law_drawn
    rw [show startL 11 [T.cell c, .int 4] = [some (.cell c), some (.int 4), none, none, none, none, none, none, none, none, none] from rfl]
    have stl : ∀ s : Sto, (s ++ [(false, MO.lst [])] ++ [(false, MO.lst [])] ++ [(false, MO.lst [])]) = s ++ [(false, .lst []), (false, .lst []), (false, .lst [])] := fun s => by simp
    have tl : (dr c d0 st).length = st.length := dr_len c d0 st
    simp only [sSeq, sAsg, vA, aCons, aNil, hv, z_ok, hLstC, purs_nil, List.length_nil, Nat.zero_le, decide_true, Bool.and_self, if_true, List.length_append, List.length_cons, List.length_set, stl]
    have h1' : loop (gT [(gN 7), (gN 8)]) b__law_drawn_3 (enumT 0 (ns.map eN)) [some (.cell c), some (.int 4), none, some (.tup (ns.map eN)), some (.cell st.length), some (.cell (st.length + 1)), some (.cell (st.length + 2)), none, none, none, none] (dr c d0 st ++ [(false, .lst []), (false, .lst []), (false, .lst [])]) = _ := h1
    simp only [sSeq, sAsg, sRet, sRetN, sIf, sNext, sBad, sExpr, vVar, vC, v1, v2, v3, vA, vM, aNil, aCons, bOf, bNot, bAnd, bOr, vAnd, vOr, vNot, vIf, bYes, gN, startL, z_ok, z_bad, noX_okE, List.map_cons, List.map_nil, List.length_cons, List.length_nil, List.cons_append, List.nil_append, List.getElem?_cons_zero, List.getElem?_cons_succ, List.set_cons_zero, List.set_cons_succ, List.replicate_succ, List.replicate_zero, Nat.reduceAdd, Nat.reduceSub, if_true, if_false, Bool.false_eq_true, Bool.true_eq_false, Bool.not_true, Bool.not_false, eq_self, true_and, and_true, and_self, Nat.reduceLT, Nat.reduceLeDiff, Bool.and_true, Bool.true_and, Bool.and_false, Bool.false_and, decide_true, decide_false, hTup, if_pos l4, gT, asT, gEach, sFor, iEnumFT, h1', add_int, show (4 : Int) + 1 = 5 from rfl, h2, iRange1, asI1, rg, h3, h4, ixe_tup, hx, if_pos lim3]
  · refine ⟨rnd, ?_, ?_, fun p hp => (ok1 p hp).1, fun p hp x hx => ?_, ?_, ?_, ?_, fun p hp => ?_, F3.cost⟩
    · show rs.length ≤ 8
      omega
    · intro z
      have : rs = [] := z
      rw [this] at rlen
      simp at rlen
      omega
    · show x ∈ rs.map (·.1)
      rw [e1]
      exact (ok1 p hp).2 x hx
    · show ns[r4.toNat] ∈ rs.map (·.1)
      rw [e1]
      exact List.getElem_mem hr4
    · exact (List.nodup_append.mp F3.nd).1
    · show fs.length ≤ 6
      simp at lf
      omega
    · have := F3.sub p.1 (List.mem_append_left _ (List.mem_map.mpr ⟨p, hp, rfl⟩))
      obtain ⟨q, hq, e, hm⟩ := mvs_mem.mp this
      refine ⟨List.mem_map.mpr ⟨q, hq, e⟩, ?_⟩
      have := Bd.fld_mem (b := ⟨rs, ns[r4.toNat], fs⟩) rnd hq
      rw [← e, this]
      exact hm
  · show fs.length ≤ 4
    simp at lf
    omega
  · show rs.length ≤ 6
    omega
  · show 2 ≤ rs.length
    omega
end V

set_option Elab.async false
set_option linter.all false
set_option maxRecDepth 100000
set_option maxHeartbeats 4000000
namespace V
open PySem L2 Sh
section
variable {N : NS} (st : Sto)
theorem f_field (p : N.ν × Fd N) (h : p.2.Ok) (hl : p.2.tg.length ≤ 6) : F__law_field [eRow p] st = .ok (eF p.2) st := by
  refine defF_rt0 rfl ?_ (pur_eF _)
  obtain ⟨a, ⟨ow, tg, go⟩⟩ := p
  have mk := mk_field st (⟨ow, tg, go⟩ : Fd N) h (Nat.le_trans hl (by decide))
  unfold b__law_field eRow
  simp only at hl
  rcases tg with _ | ⟨x1, _ | ⟨x2, _ | ⟨x3, _ | ⟨x4, _ | ⟨x5, _ | ⟨x6, _ | ⟨x7, r⟩⟩⟩⟩⟩⟩⟩
  all_goals first
    | (exfalso; simp only [List.length_cons] at hl; omega)
    | (simp only [sSeq, sAsg, sRet, sRetN, sIf, sNext, sBad, sExpr, vVar, vC, v1, v2, v3, vA, vM, aNil, aCons, bOf, bNot, bAnd, bOr, vAnd, vOr, vNot, vIf, bYes, gN, startL, z_ok, z_bad, noX_okE, List.map_cons, List.map_nil, List.length_cons, List.length_nil, List.cons_append, List.nil_append, List.getElem?_cons_zero, List.getElem?_cons_succ, List.set_cons_zero, List.set_cons_succ, List.replicate_succ, List.replicate_zero, Nat.reduceAdd, Nat.reduceSub, if_true, if_false, Bool.false_eq_true, Bool.true_eq_false, Bool.not_true, Bool.not_false, eq_self, true_and, and_true, and_self, Nat.reduceLT, Nat.reduceLeDiff, Bool.and_true, Bool.true_and, Bool.and_false, Bool.false_and, decide_true, decide_false] at mk
       simp only [sSeq, sAsg, sRet, sRetN, sIf, sNext, sBad, sExpr, vVar, vC, v1, v2, v3, vA, vM, aNil, aCons, bOf, bNot, bAnd, bOr, vAnd, vOr, vNot, vIf, bYes, gN, startL, z_ok, z_bad, noX_okE, List.map_cons, List.map_nil, List.length_cons, List.length_nil, List.cons_append, List.nil_append, List.getElem?_cons_zero, List.getElem?_cons_succ, List.set_cons_zero, List.set_cons_succ, List.replicate_succ, List.replicate_zero, Nat.reduceAdd, Nat.reduceSub, if_true, if_false, Bool.false_eq_true, Bool.true_eq_false, Bool.not_true, Bool.not_false, eq_self, true_and, and_true, and_self, Nat.reduceLT, Nat.reduceLeDiff, Bool.and_true, Bool.true_and, Bool.and_false, Bool.false_and, decide_true, decide_false, sPar, ixe_tup, at_0, at_1, at_2, at_3, at_4, at_5, List.zip_cons_cons, List.zip_nil_right, List.foldl_cons, List.foldl_nil, len_tup, eq_int, vMakeS, mk, Nat.zero_add, Int.cast_ofNat_Int, Int.reduceEq]
       done)

theorem l_built (b : Bd N) (pl : T) : ∀ (r d : List (N.ν × Fd N)) (o : Option T), ((d ++ r).map (·.1)).Nodup → (∀ p ∈ r, p.2.Ok ∧ p.2.tg.length ≤ 6) → (d ++ r).length ≤ 100 →
    ∃ o', loop (gN 2) b__law_built_1 (r.map eRow) [some pl, some (.cell st.length), o] (st ++ [(false, .dK (fk d) (fv d))]) = .ok (.nx [some pl, some (.cell st.length), o']) (st ++ [(false, .dK (fk (d ++ r)) (fv (d ++ r)))])
  | [], d, o, _, _, _ => ⟨o, by rw [List.append_nil]; rfl⟩
  | p :: r, d, o, h, hr, hl => by
    obtain ⟨o', ih⟩ := l_built b pl r (d ++ [p]) (some (eRow p)) (by rw [List.append_assoc]; exact h) (fun q hq => hr q (List.mem_cons_of_mem _ hq)) (by rw [List.append_assoc]; exact hl)
    refine ⟨o', ?_⟩
    have nk : kN p.1 ∉ fk d := fun z => by
      obtain ⟨q, hq, e⟩ := List.mem_map.mp z
      rw [List.map_append, List.nodup_append] at h
      exact h.2.2 q.1 (List.mem_map.mpr ⟨q, hq, rfl⟩) p.1 (by simp) (kN_inj.mp e)
    have hl2 : (fk d).length < lim := by
      rw [List.length_map]
      rw [List.length_append] at hl
      exact Nat.lt_of_le_of_lt (show d.length ≤ 100 by omega) (by decide)
    have ff := f_field (st ++ [(false, .dK (fk d) (fv d))]) p (hr p (by simp)).1 (hr p (by simp)).2
    have i0 : ∀ s, hIx (eRow p) (.int 0) s = .ok (eN p.1) s := fun s => rfl
    have hb : b__law_built_1 [some pl, some (.cell st.length), some (eRow p)] (st ++ [(false, .dK (fk d) (fv d))]) = .ok (.nx [some pl, some (.cell st.length), some (eRow p)]) (st ++ [(false, .dK (fk (d ++ [p])) (fv (d ++ [p])))]) := by
      unfold b__law_built_1
      simp only [sSeq, sAsg, sRet, sRetN, sIf, sNext, sBad, sExpr, vVar, vC, v1, v2, v3, vA, vM, aNil, aCons, bOf, bNot, bAnd, bOr, vAnd, vOr, vNot, vIf, bYes, gN, startL, z_ok, z_bad, noX_okE, List.map_cons, List.map_nil, List.length_cons, List.length_nil, List.cons_append, List.nil_append, List.getElem?_cons_zero, List.getElem?_cons_succ, List.set_cons_zero, List.set_cons_succ, List.replicate_succ, List.replicate_zero, Nat.reduceAdd, Nat.reduceSub, if_true, if_false, Bool.false_eq_true, Bool.true_eq_false, Bool.not_true, Bool.not_false, eq_self, true_and, and_true, and_self, Nat.reduceLT, Nat.reduceLeDiff, Bool.and_true, Bool.true_and, Bool.and_false, Bool.false_and, decide_true, decide_false, sPut, ff, i0, hPut, get_app0, pur_eF, key_N, if_pos hl2, kput, if_neg nk, set_app0, List.map_append]
    rw [List.map_cons, loop_step rfl hb, ih, List.append_assoc]
    rfl
theorem pairs_fee : ∀ ps : List (Mv N × Int), pairsOf (ps.map eFee) = some (ps.map fun p => (eM p.1, T.int p.2))
  | [] => rfl
  | p :: ps => by
    rw [List.map_cons]
    unfold pairsOf
    rw [pairs_fee ps]
    rfl
theorem keyed_fee : ∀ ps : List (Mv N × Int), keyed keyT (ps.map fun p => (eM p.1, T.int p.2)) = some (ps.map fun p => (kM p.1, T.int p.2))
  | [] => rfl
  | p :: ps => by
    rw [List.map_cons]
    unfold keyed
    rw [keyed_fee ps]
    rfl
theorem merge_fee : ∀ (r d : List (Mv N × Int)), ((d ++ r).map (·.1)).Nodup → mergeR (pk d, pv d) (r.map fun p => (kM p.1, T.int p.2)) = (pk (d ++ r), pv (d ++ r))
  | [], d, _ => by rw [List.append_nil]; rfl
  | p :: r, d, h => by
    have nk : kM p.1 ∉ pk d := fun z => by
      obtain ⟨q, hq, e⟩ := List.mem_map.mp z
      rw [List.map_append, List.nodup_append] at h
      exact h.2.2 q.1 (List.mem_map.mpr ⟨q, hq, rfl⟩) p.1 (by simp) (kM_inj.mp e)
    have ih := merge_fee r (d ++ [p]) (by rw [List.append_assoc]; exact h)
    rw [List.append_assoc] at ih
    show mergeR (kput (pk d) (pv d) (kM p.1) (T.int p.2)) (r.map fun p => (kM p.1, T.int p.2)) = _
    rw [← show (pk (d ++ [p]), pv (d ++ [p])) = kput (pk d) (pv d) (kM p.1) (T.int p.2) by
      unfold kput
      rw [if_neg nk]
      simp only [pk, pv, List.map_append]
      rfl]
    exact ih
theorem dict_fee (ps : List (Mv N × Int)) (h : (ps.map (·.1)).Nodup) : hDictT [.lst (ps.map eFee)] st = .ok (.dT (pk ps) (pv ps)) st := by
  unfold hDictT dictT asL
  simp only [pairs_fee, keyed_fee]
  have := merge_fee ps [] h
  rw [List.nil_append] at this
  rw [show ((pk ([] : List (Mv N × Int))), (pv ([] : List (Mv N × Int)))) = (([] : List (List Key)), ([] : List T)) from rfl] at this
  rw [this]
theorem plan0 (b : Bd N) (s : Sto) : hIx (ePlan b) (.int 0) s = .ok (.lst (b.fs.map eRow)) s := rfl
theorem plan1 (b : Bd N) (s : Sto) : hIx (ePlan b) (.int 1) s = .ok (eN b.st) s := rfl
theorem plan2 (b : Bd N) (s : Sto) : hIx (ePlan b) (.int 2) s = .ok (.lst (b.ps.map eFee)) s := rfl
theorem f_built (b : Bd N) (hb : b.Ok) (h6 : ∀ p ∈ b.fs, p.2.tg.length ≤ 6) : F__law_built [ePlan b] st = .ok (eB b) st := by
  obtain ⟨o, hlp⟩ := l_built st b (ePlan b) b.fs [] none hb.nod (fun p hp => ⟨hb.fok p hp, h6 p hp⟩) (by have := hb.few; simp; omega)
  rw [List.nil_append] at hlp
  have g : (st ++ [(false, MO.dK (fk b.fs) (fv b.fs))])[st.length]? = some (false, .dK (fk b.fs) (fv b.fs)) := by rw [get_app0]; rfl
  have mk := mk_board (st ++ [(false, .dK (fk b.fs) (fv b.fs))]) b hb (t := .cell st.length) (.cell g) (by unfold freeT; simp only [g]; rfl)
  refine defF_rtA (ex := [(false, .dK (fk b.fs) (fv b.fs))]) rfl ?_ (pur_eB b)
  have hlp' : loop (gN 2) b__law_built_1 (b.fs.map eRow) [some (ePlan b), some (.cell st.length), none] (st ++ [(false, .dK [] [])]) = _ := hlp
  unfold b__law_built
  simp only [sSeq, sAsg, sRet, sRetN, sIf, sNext, sBad, sExpr, vVar, vC, v1, v2, v3, vA, vM, aNil, aCons, bOf, bNot, bAnd, bOr, vAnd, vOr, vNot, vIf, bYes, gN, startL, z_ok, z_bad, noX_okE, List.map_cons, List.map_nil, List.length_cons, List.length_nil, List.cons_append, List.nil_append, List.getElem?_cons_zero, List.getElem?_cons_succ, List.set_cons_zero, List.set_cons_succ, List.replicate_succ, List.replicate_zero, Nat.reduceAdd, Nat.reduceSub, if_true, if_false, Bool.false_eq_true, Bool.true_eq_false, Bool.not_true, Bool.not_false, eq_self, true_and, and_true, and_self, Nat.reduceLT, Nat.reduceLeDiff, Bool.and_true, Bool.true_and, Bool.and_false, Bool.false_and, decide_true, decide_false, vNewKc, sFor, iSeq, plan0, plan1, plan2, hlp', dict_fee _ _ hb.mnod, mk]
theorem sub_filter {α : Type} [DecidableEq α] : ∀ {l s : List α}, l.Nodup → s.Sublist l → s = l.filter fun x => el x s
  | [], s, _, h => by rw [List.sublist_nil.mp h]; rfl
  | a :: l, s, hn, h => by
    rw [List.nodup_cons] at hn
    cases h with
    | cons _ h =>
      have na : a ∉ s := fun z => hn.1 (h.subset z)
      rw [List.filter_cons, if_neg (by rw [el_f na]; exact Bool.false_ne_true)]
      exact sub_filter hn.2 h
    | @cons_cons s' _ _ h =>
      rw [List.filter_cons, if_pos (el_t (by simp))]
      have := sub_filter hn.2 h
      congr 1
      refine this.trans (List.filter_congr fun x hx => ?_)
      have hxa : x ≠ a := fun z => hn.1 (z ▸ hx)
      unfold el
      simp [hxa]
theorem f_set {c : Nat} (h : HasD c st) (b : Bd N) (hb : b.Ok) : ∃ (F : List (Mv N)) (ds : List Int), F__law_set [.cell c, ePlan b] st = .ok (eS F) (dr c ds st) ∧ b.set F := by
  obtain ⟨sel, ds, hs, hc⟩ := cLoop_sub (c := c) (g := gT [(gN 2), (gN 3)]) (cd := bOf (v2 (hEqF true) (vA F__law_take (aCons (vVar 0) (aCons (vC (.int 2)) aNil))) (vC (.int 0)))) (e := vVar 2) (ρ := [some (.cell c), some (ePlan b), none, none]) (enc := eFee) (h := fun p => eM p.1) b.ps st h fun p hp => by
    refine ⟨[some (.cell c), some (ePlan b), some (eM p.1), some (.int p.2)], rfl, fun ds' => ?_⟩
    obtain ⟨r, d2, h1, _, _⟩ := f_take (dr c ds' st) (h.dr ds') 2 (by decide)
    rw [dr_dr] at h1
    exact ⟨decide (r = 0), d2, by simp only [sSeq, sAsg, sRet, sRetN, sIf, sNext, sBad, sExpr, vVar, vC, v1, v2, v3, vA, vM, aNil, aCons, bOf, bNot, bAnd, bOr, vAnd, vOr, vNot, vIf, bYes, gN, startL, z_ok, z_bad, noX_okE, List.map_cons, List.map_nil, List.length_cons, List.length_nil, List.cons_append, List.nil_append, List.getElem?_cons_zero, List.getElem?_cons_succ, List.set_cons_zero, List.set_cons_succ, List.replicate_succ, List.replicate_zero, Nat.reduceAdd, Nat.reduceSub, if_true, if_false, Bool.false_eq_true, Bool.true_eq_false, Bool.not_true, Bool.not_false, eq_self, true_and, and_true, and_self, Nat.reduceLT, Nat.reduceLeDiff, Bool.and_true, Bool.true_and, Bool.and_false, Bool.false_and, decide_true, decide_false, h1, eq_int], by simp only [sSeq, sAsg, sRet, sRetN, sIf, sNext, sBad, sExpr, vVar, vC, v1, v2, v3, vA, vM, aNil, aCons, bOf, bNot, bAnd, bOr, vAnd, vOr, vNot, vIf, bYes, gN, startL, z_ok, z_bad, noX_okE, List.map_cons, List.map_nil, List.length_cons, List.length_nil, List.cons_append, List.nil_append, List.getElem?_cons_zero, List.getElem?_cons_succ, List.set_cons_zero, List.set_cons_succ, List.replicate_succ, List.replicate_zero, Nat.reduceAdd, Nat.reduceSub, if_true, if_false, Bool.false_eq_true, Bool.true_eq_false, Bool.not_true, Bool.not_false, eq_self, true_and, and_true, and_self, Nat.reduceLT, Nat.reduceLeDiff, Bool.and_true, Bool.true_and, Bool.and_false, Bool.false_and, decide_true, decide_false]⟩
  have hsub : (sel.map (·.1)).Sublist b.moves := hs.map _
  refine ⟨sel.map (·.1), ds, ?_, fun m hm => hsub.subset hm, sub_filter hb.mnod hsub⟩
  have hq : q__law_set_1 [some (.cell c), some (ePlan b), none, none] st = .ok (.lst (sel.map fun p => eM p.1)) (dr c ds st) := by
    unfold q__law_set_1 vLc
    have l1 : (b.ps.map eFee).length ≤ lim := by rw [List.length_map]; exact Nat.le_trans hb.mfew (by decide)
    simp only [iSeq, sSeq, sAsg, sRet, sRetN, sIf, sNext, sBad, sExpr, vVar, vC, v1, v2, v3, vA, vM, aNil, aCons, bOf, bNot, bAnd, bOr, vAnd, vOr, vNot, vIf, bYes, gN, startL, z_ok, z_bad, noX_okE, List.map_cons, List.map_nil, List.length_cons, List.length_nil, List.cons_append, List.nil_append, List.getElem?_cons_zero, List.getElem?_cons_succ, List.set_cons_zero, List.set_cons_succ, List.replicate_succ, List.replicate_zero, Nat.reduceAdd, Nat.reduceSub, if_true, if_false, Bool.false_eq_true, Bool.true_eq_false, Bool.not_true, Bool.not_false, eq_self, true_and, and_true, and_self, Nat.reduceLT, Nat.reduceLeDiff, Bool.and_true, Bool.true_and, Bool.and_false, Bool.false_and, decide_true, decide_false, plan2, if_pos l1, wipeL, hc]
  have := defF_rt (fn := fnX) (n := 2) (N := 4) (b := b__law_set) (as := [.cell c, ePlan b]) (st := st) (s' := dr c ds st) (t := eS (sel.map (·.1))) rfl (by
    unfold b__law_set
    have ht : hTuple [.lst (sel.map fun p => eM p.1)] (dr c ds st) = .ok (.tup (sel.map fun p => eM p.1)) (dr c ds st) := rfl
    simp only [sSeq, sAsg, sRet, sRetN, sIf, sNext, sBad, sExpr, vVar, vC, v1, v2, v3, vA, vM, aNil, aCons, bOf, bNot, bAnd, bOr, vAnd, vOr, vNot, vIf, bYes, gN, startL, z_ok, z_bad, noX_okE, List.map_cons, List.map_nil, List.length_cons, List.length_nil, List.cons_append, List.nil_append, List.getElem?_cons_zero, List.getElem?_cons_succ, List.set_cons_zero, List.set_cons_succ, List.replicate_succ, List.replicate_zero, Nat.reduceAdd, Nat.reduceSub, if_true, if_false, Bool.false_eq_true, Bool.true_eq_false, Bool.not_true, Bool.not_false, eq_self, true_and, and_true, and_self, Nat.reduceLT, Nat.reduceLeDiff, Bool.and_true, Bool.true_and, Bool.and_false, Bool.false_and, decide_true, decide_false, hq, ht]
    unfold eS
    rw [List.map_map]
    rfl) (pur_eS _)
  rw [← dr_len c ds st, List.take_length] at this
  exact this
theorem at_head {α : Type} (l : List α) : atI l (0 : Int) = l.head? := by
  cases l with
  | nil => rfl
  | cons a l => exact at_0 a l
theorem f_row (b : Bd N) (hb : b.Ok) {p : N.ν × Fd N} (hp : p ∈ b.fs) : F__law_row [ePlan b, eN p.1] st = .ok (eRow p) st := by
  refine defF_rt0 rfl ?_ (pur_eRow _)
  have hq : q__law_row_1 [some (ePlan b), some (eN p.1), none] st = .ok (.lst ((b.fs.filter fun q => decide (q.1 = p.1)).map eRow)) st := by
    unfold q__law_row_1
    refine vLc_go (s := st) (l := b.fs) (enc := eRow) (p := fun q => decide (q.1 = p.1)) (h := eRow) (by simp only [iSeq, sSeq, sAsg, sRet, sRetN, sIf, sNext, sBad, sExpr, vVar, vC, v1, v2, v3, vA, vM, aNil, aCons, bOf, bNot, bAnd, bOr, vAnd, vOr, vNot, vIf, bYes, gN, startL, z_ok, z_bad, noX_okE, List.map_cons, List.map_nil, List.length_cons, List.length_nil, List.cons_append, List.nil_append, List.getElem?_cons_zero, List.getElem?_cons_succ, List.set_cons_zero, List.set_cons_succ, List.replicate_succ, List.replicate_zero, Nat.reduceAdd, Nat.reduceSub, if_true, if_false, Bool.false_eq_true, Bool.true_eq_false, Bool.not_true, Bool.not_false, eq_self, true_and, and_true, and_self, Nat.reduceLT, Nat.reduceLeDiff, Bool.and_true, Bool.true_and, Bool.and_false, Bool.false_and, decide_true, decide_false, plan0]) (Nat.le_trans hb.few (by decide)) fun q hq => ⟨_, rfl, ?_, fun _ => by simp only [sSeq, sAsg, sRet, sRetN, sIf, sNext, sBad, sExpr, vVar, vC, v1, v2, v3, vA, vM, aNil, aCons, bOf, bNot, bAnd, bOr, vAnd, vOr, vNot, vIf, bYes, gN, startL, z_ok, z_bad, noX_okE, List.map_cons, List.map_nil, List.length_cons, List.length_nil, List.cons_append, List.nil_append, List.getElem?_cons_zero, List.getElem?_cons_succ, List.set_cons_zero, List.set_cons_succ, List.replicate_succ, List.replicate_zero, Nat.reduceAdd, Nat.reduceSub, if_true, if_false, Bool.false_eq_true, Bool.true_eq_false, Bool.not_true, Bool.not_false, eq_self, true_and, and_true, and_self, Nat.reduceLT, Nat.reduceLeDiff, Bool.and_true, Bool.true_and, Bool.and_false, Bool.false_and, decide_true, decide_false, wipeL]⟩
    have := eqT_enc (α := N.ν) q.1 p.1 st (Nat.zero_le _)
    rw [← eN_enc] at this
    have i0 : ∀ s, hIx (eRow q) (.int 0) s = .ok (eN q.1) s := fun s => rfl
    simp only [sSeq, sAsg, sRet, sRetN, sIf, sNext, sBad, sExpr, vVar, vC, v1, v2, v3, vA, vM, aNil, aCons, bOf, bNot, bAnd, bOr, vAnd, vOr, vNot, vIf, bYes, gN, startL, z_ok, z_bad, noX_okE, List.map_cons, List.map_nil, List.length_cons, List.length_nil, List.cons_append, List.nil_append, List.getElem?_cons_zero, List.getElem?_cons_succ, List.set_cons_zero, List.set_cons_succ, List.replicate_succ, List.replicate_zero, Nat.reduceAdd, Nat.reduceSub, if_true, if_false, Bool.false_eq_true, Bool.true_eq_false, Bool.not_true, Bool.not_false, eq_self, true_and, and_true, and_self, Nat.reduceLT, Nat.reduceLeDiff, Bool.and_true, Bool.true_and, Bool.and_false, Bool.false_and, decide_true, decide_false, wipeL, i0, this]
  have ha : atI ((b.fs.filter fun q => decide (q.1 = p.1)).map eRow) (0 : Int) = some (eRow p) := by
    rw [at_head, List.head?_map, List.head?_filter, find_mem hb.nod hp]
    rfl
  unfold b__law_row
  simp only [sSeq, sAsg, sRet, sRetN, sIf, sNext, sBad, sExpr, vVar, vC, v1, v2, v3, vA, vM, aNil, aCons, bOf, bNot, bAnd, bOr, vAnd, vOr, vNot, vIf, bYes, gN, startL, z_ok, z_bad, noX_okE, List.map_cons, List.map_nil, List.length_cons, List.length_nil, List.cons_append, List.nil_append, List.getElem?_cons_zero, List.getElem?_cons_succ, List.set_cons_zero, List.set_cons_succ, List.replicate_succ, List.replicate_zero, Nat.reduceAdd, Nat.reduceSub, if_true, if_false, Bool.false_eq_true, Bool.true_eq_false, Bool.not_true, Bool.not_false, eq_self, true_and, and_true, and_self, Nat.reduceLT, Nat.reduceLeDiff, Bool.and_true, Bool.true_and, Bool.and_false, Bool.false_and, decide_true, decide_false, hq, ixe_lst, ha]
theorem f_rowN (b : Bd N) (hb : b.Ok) {a : N.ν} (ha : a ∈ b.names) : F__law_row [ePlan b, eN a] st = .ok (eRow (a, b.fld a)) st := by
  obtain ⟨p, hp, e⟩ := List.mem_map.mp ha
  subst e
  rw [f_row st b hb hp, Bd.fld_mem hb.nod hp]
theorem f_ways (b : Bd N) (hb : b.Ok) {t : T} {F : List (Mv N)} (h : SV t F) {a : N.ν} (ha : a ∈ b.names) : F__law_ways [ePlan b, t, eN a] st = .ok (.lst ((b.steps F a).map eN)) st := by
  refine defF_rt0 rfl ?_ (purs_map (fun a => pur_eN (N := N) a) _)
  have hq : q__law_ways_1 [some (ePlan b), some t, some (eN a), some (.tup ((b.fld a).tg.map eN)), none] st = .ok (.lst ((b.steps F a).map eN)) st := by
    unfold q__law_ways_1
    rw [vLc_go (s := st) (l := b.fs) (enc := eRow) (p := fun q => el q.1 (b.fld a).tg && !el (a, q.1) F) (h := fun q => eN q.1) (by simp only [iSeq, sSeq, sAsg, sRet, sRetN, sIf, sNext, sBad, sExpr, vVar, vC, v1, v2, v3, vA, vM, aNil, aCons, bOf, bNot, bAnd, bOr, vAnd, vOr, vNot, vIf, bYes, gN, startL, z_ok, z_bad, noX_okE, List.map_cons, List.map_nil, List.length_cons, List.length_nil, List.cons_append, List.nil_append, List.getElem?_cons_zero, List.getElem?_cons_succ, List.set_cons_zero, List.set_cons_succ, List.replicate_succ, List.replicate_zero, Nat.reduceAdd, Nat.reduceSub, if_true, if_false, Bool.false_eq_true, Bool.true_eq_false, Bool.not_true, Bool.not_false, eq_self, true_and, and_true, and_self, Nat.reduceLT, Nat.reduceLeDiff, Bool.and_true, Bool.true_and, Bool.and_false, Bool.false_and, decide_true, decide_false, plan0]) (Nat.le_trans hb.few (by decide)) fun q hq => ⟨_, rfl, ?_, fun _ => ?_⟩]
    · unfold Bd.steps Bd.names
      rw [List.filter_map, List.map_map]
      rfl
    · have i0 : ∀ s, hIx (eRow q) (.int 0) s = .ok (eN q.1) s := fun s => rfl
      have h1 := in_tup (α := N.ν) q.1 (b.fld a).tg st (Nat.zero_le _) true
      rw [← eN_enc] at h1
      have h2 := h.in_ (a, q.1) st false
      unfold eM at h2
      simp only [sSeq, sAsg, sRet, sRetN, sIf, sNext, sBad, sExpr, vVar, vC, v1, v2, v3, vA, vM, aNil, aCons, bOf, bNot, bAnd, bOr, vAnd, vOr, vNot, vIf, bYes, gN, startL, z_ok, z_bad, noX_okE, List.map_cons, List.map_nil, List.length_cons, List.length_nil, List.cons_append, List.nil_append, List.getElem?_cons_zero, List.getElem?_cons_succ, List.set_cons_zero, List.set_cons_succ, List.replicate_succ, List.replicate_zero, Nat.reduceAdd, Nat.reduceSub, if_true, if_false, Bool.false_eq_true, Bool.true_eq_false, Bool.not_true, Bool.not_false, eq_self, true_and, and_true, and_self, Nat.reduceLT, Nat.reduceLeDiff, Bool.and_true, Bool.true_and, Bool.and_false, Bool.false_and, decide_true, decide_false, wipeL, i0, h1, hTup, if_pos lim2, h2]
      cases el q.1 (b.fld a).tg <;> simp
    · have i0 : ∀ s, hIx (eRow q) (.int 0) s = .ok (eN q.1) s := fun s => rfl
      simp only [sSeq, sAsg, sRet, sRetN, sIf, sNext, sBad, sExpr, vVar, vC, v1, v2, v3, vA, vM, aNil, aCons, bOf, bNot, bAnd, bOr, vAnd, vOr, vNot, vIf, bYes, gN, startL, z_ok, z_bad, noX_okE, List.map_cons, List.map_nil, List.length_cons, List.length_nil, List.cons_append, List.nil_append, List.getElem?_cons_zero, List.getElem?_cons_succ, List.set_cons_zero, List.set_cons_succ, List.replicate_succ, List.replicate_zero, Nat.reduceAdd, Nat.reduceSub, if_true, if_false, Bool.false_eq_true, Bool.true_eq_false, Bool.not_true, Bool.not_false, eq_self, true_and, and_true, and_self, Nat.reduceLT, Nat.reduceLeDiff, Bool.and_true, Bool.true_and, Bool.and_false, Bool.false_and, decide_true, decide_false, wipeL, i0]
  have i2 : ∀ s, hIx (eRow (a, b.fld a)) (.int 2) s = .ok (.tup ((b.fld a).tg.map eN)) s := fun s => rfl
  unfold b__law_ways
  simp only [sSeq, sAsg, sRet, sRetN, sIf, sNext, sBad, sExpr, vVar, vC, v1, v2, v3, vA, vM, aNil, aCons, bOf, bNot, bAnd, bOr, vAnd, vOr, vNot, vIf, bYes, gN, startL, z_ok, z_bad, noX_okE, List.map_cons, List.map_nil, List.length_cons, List.length_nil, List.cons_append, List.nil_append, List.getElem?_cons_zero, List.getElem?_cons_succ, List.set_cons_zero, List.set_cons_succ, List.replicate_succ, List.replicate_zero, Nat.reduceAdd, Nat.reduceSub, if_true, if_false, Bool.false_eq_true, Bool.true_eq_false, Bool.not_true, Bool.not_false, eq_self, true_and, and_true, and_self, Nat.reduceLT, Nat.reduceLeDiff, Bool.and_true, Bool.true_and, Bool.and_false, Bool.false_and, decide_true, decide_false, f_rowN _ b hb ha, i2, hq]
end
end V

set_option Elab.async false
set_option linter.all false
set_option maxRecDepth 100000
set_option maxHeartbeats 4000000
namespace V
open PySem L2 Sh
section
variable {N : NS} (st : Sto)
/-! what the numbers say -/
theorem fnd_succ (b : Bd N) (F : List (Mv N)) (i : Nat) : b.fnd F (i + 1) = b.fnd F i ++ (b.late F (b.fnd F i)).map fun a => (a, (i : Int)) := rfl
theorem fnd_keys (b : Bd N) (F : List (Mv N)) (i : Nat) : (b.fnd F (i + 1)).map (·.1) = (b.fnd F i).map (·.1) ++ b.late F (b.fnd F i) := by
  rw [fnd_succ, List.map_append, List.map_map]
  rw [show ((fun x : N.ν × Int => x.1) ∘ fun a => (a, (i : Int))) = id from rfl, List.map_id]
theorem late_names {b : Bd N} {F : List (Mv N)} {f : Fnd N} {a : N.ν} (h : a ∈ b.late F f) : a ∈ b.names := (List.mem_filter.mp h).1
theorem fnd_sub (b : Bd N) (F : List (Mv N)) : ∀ i, ∀ a ∈ (b.fnd F i).map (·.1), a ∈ b.names
  | 0, _, h => nomatch h
  | i + 1, a, h => by
    rw [fnd_keys, List.mem_append] at h
    exact h.elim (fnd_sub b F i a) late_names
theorem fnd_grow (b : Bd N) (F : List (Mv N)) : ∀ i, i ≤ (b.fnd F i).length ∨ b.late F (b.fnd F i) = []
  | 0 => .inl (Nat.zero_le _)
  | i + 1 => by
    by_cases e : b.late F (b.fnd F i) = []
    · right
      have : b.fnd F (i + 1) = b.fnd F i := by rw [fnd_succ, e]; simp
      rw [this]
      exact e
    · left
      have h := (fnd_grow b F i).resolve_right e
      rw [fnd_succ, List.length_append, List.length_map]
      have : 0 < (b.late F (b.fnd F i)).length := List.length_pos_iff.mpr e
      omega
theorem late_end {b : Bd N} (hn : b.names.Nodup) (F : List (Mv N)) : b.late F (b.fnd F b.fs.length) = [] := by
  rcases fnd_grow b F b.fs.length with h | h
  · have hk := fnd_nodup hn F b.fs.length
    have hs := fnd_sub b F b.fs.length
    unfold Bd.late
    rw [List.filter_eq_nil_iff]
    intro a ha z
    rw [Bool.and_eq_true] at z
    have z := z.1
    have na : a ∉ (b.fnd F b.fs.length).map (·.1) := fun y => by
      unfold Fnd.has at z
      rw [el_t y] at z
      cases z
    have := nodup_len (l := a :: (b.fnd F b.fs.length).map (·.1)) (k := b.names) (List.nodup_cons.mpr ⟨na, hk⟩) fun x hx => by
      rcases List.mem_cons.mp hx with e | hx
      · exact e ▸ ha
      · exact hs x hx
    rw [List.length_cons, List.length_map] at this
    have e : b.names.length = b.fs.length := by unfold Bd.names; rw [List.length_map]
    omega
  · exact h
theorem fnd_end {b : Bd N} (hn : b.names.Nodup) (F : List (Mv N)) : b.fnd F (b.fs.length + 1) = b.fnd F b.fs.length := by
  rw [fnd_succ, late_end hn]
  simp
theorem has_get (f : Fnd N) (a : N.ν) : f.has a = (f.get a).isSome := by
  unfold Fnd.has Fnd.get
  rw [Option.isSome_map, find_some]
theorem get_left {f g : Fnd N} {a : N.ν} {k : Int} (h : f.get a = some k) : Fnd.get (f ++ g) a = some k := by
  unfold Fnd.get at h ⊢
  rw [List.find?_append]
  cases q : f.find? fun p => decide (p.1 = a) with
  | none => rw [q] at h; cases h
  | some p => rw [q] at h; exact h
theorem fnd_le (b : Bd N) (F : List (Mv N)) {a : N.ν} {k : Int} {i : Nat} (h : (b.fnd F i).get a = some k) : ∀ d, (b.fnd F (i + d)).get a = some k
  | 0 => h
  | d + 1 => get_left (fnd_le b F h d)
theorem fnd_get (b : Bd N) (F : List (Mv N)) {a : N.ν} : ∀ {i : Nat} {k : Int}, (b.fnd F i).get a = some k → ∃ j : Nat, k = j ∧ j < i ∧ a ∈ b.late F (b.fnd F j)
  | 0, _, h => by cases h
  | i + 1, k, h => by
    cases q : (b.fnd F i).get a with
    | some k' =>
      have := fnd_le b F q 1
      rw [h] at this
      cases this
      obtain ⟨j, e, l, m⟩ := fnd_get b F q
      exact ⟨j, e, by omega, m⟩
    | none =>
      rw [fnd_succ] at h
      unfold Fnd.get at h q
      rw [List.find?_append] at h
      rw [Option.map_eq_none_iff] at q
      rw [q, Option.none_or] at h
      cases z : ((b.late F (b.fnd F i)).map fun a => (a, (i : Int))).find? fun p => decide (p.1 = a) with
      | none => rw [z] at h; cases h
      | some p =>
        rw [z] at h
        cases h
        have hm := List.mem_of_find?_eq_some z
        have hp := List.find?_some z
        obtain ⟨c, hc, rfl⟩ := List.mem_map.mp hm
        have : c = a := of_decide_eq_true hp
        subst this
        exact ⟨i, rfl, by omega, hc⟩
theorem dist_fall (b : Bd N) (F : List (Mv N)) {a : N.ν} {k : Int} (h : b.dist F a = some k) : ∃ (j : Nat) (p : N.ν → Bool), k = j ∧ j < b.fs.length ∧ a ∈ b.names ∧ forced (b.fld a) ((b.steps F a).map p) = true ∧ ∀ x, p x = true → ∃ i : Nat, b.dist F x = some (i : Int) ∧ i < j := by
  obtain ⟨j, e, l, m⟩ := fnd_get b F h
  unfold Bd.late at m
  rw [List.mem_filter, Bool.and_eq_true] at m
  refine ⟨j, (b.fnd F j).has, e, l, m.1, m.2.2, fun x hx => ?_⟩
  rw [has_get] at hx
  obtain ⟨k', hk⟩ := Option.isSome_iff_exists.mp hx
  obtain ⟨i, e2, l2, _⟩ := fnd_get b F hk
  subst e2
  have := fnd_le b F hk (b.fs.length - j)
  rw [show j + (b.fs.length - j) = b.fs.length by omega] at this
  exact ⟨i, this, l2⟩
theorem fld_ow {b : Bd N} (hb : b.Ok) {a : N.ν} (h : a ∈ b.names) : (b.fld a).ow = 1 ∨ (b.fld a).ow = 2 := by
  obtain ⟨p, hp, rfl⟩ := List.mem_map.mp h
  rw [Bd.fld_mem hb.nod hp]
  exact (hb.fok p hp).1
theorem steps_names {b : Bd N} {F : List (Mv N)} {a x : N.ν} (h : x ∈ b.steps F a) : x ∈ b.names := (List.mem_filter.mp h).1

/-! _law_far -/
theorem far_row (b : Bd N) (hb : b.Ok) {t : T} {F : List (Mv N)} (h : SV t F) {p : N.ν × Fd N} (hp : p ∈ b.fs) (f : Fnd N) (c : Nat) (B : Sto) (d : List N.ν) (hd : d.length < 100) (hv : DV (B ++ [(false, .lst (d.map eN))]) (.cell c) (gk f) (gv f)) (o3 o9 o10 : Option T) :
    b__law_far_2 [some (ePlan b), some t, some (.cell c), o3, some (.cell B.length), some (eN p.1), some (.int p.2.ow), some (.tup (p.2.tg.map eN)), some (.bl p.2.go), o9, o10] (B ++ [(false, .lst (d.map eN))]) = .ok (.nx [some (ePlan b), some t, some (.cell c), o3, some (.cell B.length), some (eN p.1), some (.int p.2.ow), some (.tup (p.2.tg.map eN)), some (.bl p.2.go), some (.lst (((b.steps F p.1).map f.has).map .bl)), o10]) (B ++ [(false, .lst ((d ++ [p.1].filter fun a => !f.has a && forced (b.fld a) ((b.steps F a).map f.has)).map eN))]) := by
  have hn : p.1 ∈ b.names := List.mem_map.mpr ⟨p, hp, rfl⟩
  have hfl := Bd.fld_mem hb.nod hp
  have hq : ∀ o9, q__law_far_1 [some (ePlan b), some t, some (.cell c), o3, some (.cell B.length), some (eN p.1), some (.int p.2.ow), some (.tup (p.2.tg.map eN)), some (.bl p.2.go), o9, o10] (B ++ [(false, .lst (d.map eN))]) = .ok (.lst (((b.steps F p.1).map f.has).map .bl)) (B ++ [(false, .lst (d.map eN))]) := fun o9 => by
    unfold q__law_far_1
    rw [vLc_goA (s := B ++ [(false, .lst (d.map eN))]) (l := b.steps F p.1) (enc := eN) (h := fun a => T.bl (f.has a)) (by simp only [iSeq, sSeq, sAsg, sRet, sRetN, sIf, sNext, sBad, sExpr, vVar, vC, v1, v2, v3, vA, vM, aNil, aCons, bOf, bNot, bAnd, bOr, vAnd, vOr, vNot, vIf, bYes, gN, startL, z_ok, z_bad, noX_okE, List.map_cons, List.map_nil, List.length_cons, List.length_nil, List.cons_append, List.nil_append, List.getElem?_cons_zero, List.getElem?_cons_succ, List.set_cons_zero, List.set_cons_succ, List.replicate_succ, List.replicate_zero, Nat.reduceAdd, Nat.reduceSub, if_true, if_false, Bool.false_eq_true, Bool.true_eq_false, Bool.not_true, Bool.not_false, eq_self, true_and, and_true, and_self, Nat.reduceLT, Nat.reduceLeDiff, Bool.and_true, Bool.true_and, Bool.and_false, Bool.false_and, decide_true, decide_false, f_ways _ b hb h hn]) (Nat.le_trans (steps_len b hb.few F p.1) (by decide)) fun a ha => ⟨_, rfl, by simp only [sSeq, sAsg, sRet, sRetN, sIf, sNext, sBad, sExpr, vVar, vC, v1, v2, v3, vA, vM, aNil, aCons, bOf, bNot, bAnd, bOr, vAnd, vOr, vNot, vIf, bYes, gN, startL, z_ok, z_bad, noX_okE, List.map_cons, List.map_nil, List.length_cons, List.length_nil, List.cons_append, List.nil_append, List.getElem?_cons_zero, List.getElem?_cons_succ, List.set_cons_zero, List.set_cons_succ, List.replicate_succ, List.replicate_zero, Nat.reduceAdd, Nat.reduceSub, if_true, if_false, Bool.false_eq_true, Bool.true_eq_false, Bool.not_true, Bool.not_false, eq_self, true_and, and_true, and_self, Nat.reduceLT, Nat.reduceLeDiff, Bool.and_true, Bool.true_and, Bool.and_false, Bool.false_and, decide_true, decide_false, wipeL, hv.in_ (key_N a), kget_has]⟩, List.map_map]
    rfl
  have hlen : (d.map eN).length < lim := by rw [List.length_map]; exact Nat.lt_trans hd (by decide)
  have ow : p.2.ow = 1 ∨ p.2.ow = 2 := (hb.fok p hp).1
  have key : (!f.has p.1 && forced (b.fld p.1) ((b.steps F p.1).map f.has)) = (!f.has p.1 && (p.2.go || ((decide (p.2.ow = 1) && ((b.steps F p.1).map f.has).any id) || (decide (p.2.ow = 2) && ((b.steps F p.1).map f.has).all id)))) := by
    rw [hfl]
    unfold forced
    rcases ow with e | e <;> simp [e]
  unfold b__law_far_2
  rw [List.filter_cons, List.filter_nil, key]
  have ap := append_end B (v := eN p.1) (xs := d.map eN) (ex := []) rfl hlen
  cases h1 : f.has p.1 with
  | true => simp only [sSeq, sAsg, sRet, sRetN, sIf, sNext, sBad, sExpr, vVar, vC, v1, v2, v3, vA, vM, aNil, aCons, bOf, bNot, bAnd, bOr, vAnd, vOr, vNot, vIf, bYes, gN, startL, z_ok, z_bad, noX_okE, List.map_cons, List.map_nil, List.length_cons, List.length_nil, List.cons_append, List.nil_append, List.getElem?_cons_zero, List.getElem?_cons_succ, List.set_cons_zero, List.set_cons_succ, List.replicate_succ, List.replicate_zero, Nat.reduceAdd, Nat.reduceSub, if_true, if_false, Bool.false_eq_true, Bool.true_eq_false, Bool.not_true, Bool.not_false, eq_self, true_and, and_true, and_self, Nat.reduceLT, Nat.reduceLeDiff, Bool.and_true, Bool.true_and, Bool.and_false, Bool.false_and, decide_true, decide_false, hq, hv.in_ (key_N p.1), kget_has, h1, List.append_nil]
  | false =>
    cases h2 : p.2.go with
    | true => simp only [h2] at hq; simp only [sSeq, sAsg, sRet, sRetN, sIf, sNext, sBad, sExpr, vVar, vC, v1, v2, v3, vA, vM, aNil, aCons, bOf, bNot, bAnd, bOr, vAnd, vOr, vNot, vIf, bYes, gN, startL, z_ok, z_bad, noX_okE, List.map_cons, List.map_nil, List.length_cons, List.length_nil, List.cons_append, List.nil_append, List.getElem?_cons_zero, List.getElem?_cons_succ, List.set_cons_zero, List.set_cons_succ, List.replicate_succ, List.replicate_zero, Nat.reduceAdd, Nat.reduceSub, if_true, if_false, Bool.false_eq_true, Bool.true_eq_false, Bool.not_true, Bool.not_false, eq_self, true_and, and_true, and_self, Nat.reduceLT, Nat.reduceLeDiff, Bool.and_true, Bool.true_and, Bool.and_false, Bool.false_and, decide_true, decide_false, hq, hv.in_ (key_N p.1), kget_has, h1, h2, vAppend, lu_end, ap, Bool.true_or, List.map_append]
    | false =>
      simp only [h2] at hq
      rcases ow with e | e
      · rw [e] at hq
        cases h3 : ((b.steps F p.1).map f.has).any id with
        | true => simp only [sSeq, sAsg, sRet, sRetN, sIf, sNext, sBad, sExpr, vVar, vC, v1, v2, v3, vA, vM, aNil, aCons, bOf, bNot, bAnd, bOr, vAnd, vOr, vNot, vIf, bYes, gN, startL, z_ok, z_bad, noX_okE, List.map_cons, List.map_nil, List.length_cons, List.length_nil, List.cons_append, List.nil_append, List.getElem?_cons_zero, List.getElem?_cons_succ, List.set_cons_zero, List.set_cons_succ, List.replicate_succ, List.replicate_zero, Nat.reduceAdd, Nat.reduceSub, if_true, if_false, Bool.false_eq_true, Bool.true_eq_false, Bool.not_true, Bool.not_false, eq_self, true_and, and_true, and_self, Nat.reduceLT, Nat.reduceLeDiff, Bool.and_true, Bool.true_and, Bool.and_false, Bool.false_and, decide_true, decide_false, hq, hv.in_ (key_N p.1), kget_has, h1, h2, e, eq_int, all_lst, h3, vAppend, lu_end, ap, Bool.true_or, Bool.false_or, List.map_append]
        | false => simp only [sSeq, sAsg, sRet, sRetN, sIf, sNext, sBad, sExpr, vVar, vC, v1, v2, v3, vA, vM, aNil, aCons, bOf, bNot, bAnd, bOr, vAnd, vOr, vNot, vIf, bYes, gN, startL, z_ok, z_bad, noX_okE, List.map_cons, List.map_nil, List.length_cons, List.length_nil, List.cons_append, List.nil_append, List.getElem?_cons_zero, List.getElem?_cons_succ, List.set_cons_zero, List.set_cons_succ, List.replicate_succ, List.replicate_zero, Nat.reduceAdd, Nat.reduceSub, if_true, if_false, Bool.false_eq_true, Bool.true_eq_false, Bool.not_true, Bool.not_false, eq_self, true_and, and_true, and_self, Nat.reduceLT, Nat.reduceLeDiff, Bool.and_true, Bool.true_and, Bool.and_false, Bool.false_and, decide_true, decide_false, hq, hv.in_ (key_N p.1), kget_has, h1, h2, e, eq_int, all_lst, h3, vAppend, lu_end, ap, Bool.true_or, Bool.false_or, List.append_nil, show ¬ ((1 : Int) = 2) by decide]
      · rw [e] at hq
        cases h3 : ((b.steps F p.1).map f.has).all id with
        | true => simp only [sSeq, sAsg, sRet, sRetN, sIf, sNext, sBad, sExpr, vVar, vC, v1, v2, v3, vA, vM, aNil, aCons, bOf, bNot, bAnd, bOr, vAnd, vOr, vNot, vIf, bYes, gN, startL, z_ok, z_bad, noX_okE, List.map_cons, List.map_nil, List.length_cons, List.length_nil, List.cons_append, List.nil_append, List.getElem?_cons_zero, List.getElem?_cons_succ, List.set_cons_zero, List.set_cons_succ, List.replicate_succ, List.replicate_zero, Nat.reduceAdd, Nat.reduceSub, if_true, if_false, Bool.false_eq_true, Bool.true_eq_false, Bool.not_true, Bool.not_false, eq_self, true_and, and_true, and_self, Nat.reduceLT, Nat.reduceLeDiff, Bool.and_true, Bool.true_and, Bool.and_false, Bool.false_and, decide_true, decide_false, hq, hv.in_ (key_N p.1), kget_has, h1, h2, e, eq_int, all_lst, h3, vAppend, lu_end, ap, Bool.true_or, Bool.false_or, List.map_append, show ¬ ((2 : Int) = 1) by decide]
        | false => simp only [sSeq, sAsg, sRet, sRetN, sIf, sNext, sBad, sExpr, vVar, vC, v1, v2, v3, vA, vM, aNil, aCons, bOf, bNot, bAnd, bOr, vAnd, vOr, vNot, vIf, bYes, gN, startL, z_ok, z_bad, noX_okE, List.map_cons, List.map_nil, List.length_cons, List.length_nil, List.cons_append, List.nil_append, List.getElem?_cons_zero, List.getElem?_cons_succ, List.set_cons_zero, List.set_cons_succ, List.replicate_succ, List.replicate_zero, Nat.reduceAdd, Nat.reduceSub, if_true, if_false, Bool.false_eq_true, Bool.true_eq_false, Bool.not_true, Bool.not_false, eq_self, true_and, and_true, and_self, Nat.reduceLT, Nat.reduceLeDiff, Bool.and_true, Bool.true_and, Bool.and_false, Bool.false_and, decide_true, decide_false, hq, hv.in_ (key_N p.1), kget_has, h1, h2, e, eq_int, all_lst, h3, vAppend, lu_end, ap, Bool.true_or, Bool.false_or, List.append_nil, show ¬ ((2 : Int) = 1) by decide]
theorem far_rows (b : Bd N) (hb : b.Ok) {t : T} {F : List (Mv N)} (h : SV t F) (f : Fnd N) (c : Nat) (B : Sto) (hv : ∀ d : List N.ν, DV (B ++ [(false, .lst (d.map eN))]) (.cell c) (gk f) (gv f)) (o3 o10 : Option T) : ∀ (r : List (N.ν × Fd N)) (d : List N.ν) (o5 o6 o7 o8 o9 : Option T), (∀ p ∈ r, p ∈ b.fs) → d.length + r.length ≤ 100 →
    ∃ o5' o6' o7' o8' o9', loop (gT [(gN 5), (gN 6), (gN 7), (gN 8)]) b__law_far_2 (r.map eRow) [some (ePlan b), some t, some (.cell c), o3, some (.cell B.length), o5, o6, o7, o8, o9, o10] (B ++ [(false, .lst (d.map eN))]) = .ok (.nx [some (ePlan b), some t, some (.cell c), o3, some (.cell B.length), o5', o6', o7', o8', o9', o10]) (B ++ [(false, .lst ((d ++ (r.map (·.1)).filter fun a => !f.has a && forced (b.fld a) ((b.steps F a).map f.has)).map eN))])
  | [], d, o5, o6, o7, o8, o9, _, _ => ⟨o5, o6, o7, o8, o9, by simp [loop_nil]⟩
  | p :: r, d, o5, o6, o7, o8, o9, hr, hl => by
    rw [List.length_cons] at hl
    have h1 := far_row b hb h (hr p (by simp)) f c B d (by omega) (hv d) o3 o9 o10
    have hlen : (d ++ [p.1].filter fun a => !f.has a && forced (b.fld a) ((b.steps F a).map f.has)).length ≤ d.length + 1 := by
      rw [List.length_append]
      have := List.length_filter_le (fun a => !f.has a && forced (b.fld a) ((b.steps F a).map f.has)) [p.1]
      simp only [List.length_singleton] at this
      omega
    obtain ⟨q5, q6, q7, q8, q9, ih⟩ := far_rows b hb h f c B hv o3 o10 r (d ++ [p.1].filter fun a => !f.has a && forced (b.fld a) ((b.steps F a).map f.has)) (some (eN p.1)) (some (.int p.2.ow)) (some (.tup (p.2.tg.map eN))) (some (.bl p.2.go)) (some (.lst (((b.steps F p.1).map f.has).map .bl))) (fun q hq => hr q (List.mem_cons_of_mem _ hq)) (by omega)
    refine ⟨q5, q6, q7, q8, q9, ?_⟩
    rw [List.map_cons, loop_step rfl h1, ih, List.append_assoc, ← List.filter_append]
    rfl
theorem loopC_step {g : Tg} {b : Fs} {c n i : Nat} {x : T} {xs : List T} {k : Bool} {ρ ρ' ρ2 : Lo} {s s' : Sto} (hs : s[c]? = some (k, .lst xs)) (hx : xs[i]? = some x) (hg : g x ρ = some ρ') (hb : b ρ' s = .ok (.nx ρ2) s') : loopC g b c (n + 1) i ρ s = loopC g b c n (i + 1) ρ2 s' := by
  conv => lhs; unfold loopC
  simp only [hs, hx, hg, hb, z_ok]
theorem loopC_end {g : Tg} {b : Fs} {c n i : Nat} {xs : List T} {k : Bool} {ρ : Lo} {s : Sto} (hs : s[c]? = some (k, .lst xs)) (hx : xs[i]? = none) : loopC g b c (n + 1) i ρ s = .ok (.nx ρ) s := by
  unfold loopC
  simp only [hs, hx]
theorem far_put (i : Int) (ex : Sto) (all : List N.ν) (hall : all.Nodup) (p0 p1 : Option T) (o4 o6 o7 o8 o9 o10 : Option T) : ∀ (r d : List N.ν) (fuel : Nat) (f : Fnd N) (o5 : Option T), d ++ r = all → r.length < fuel → (∀ a ∈ r, a ∉ f.map (·.1)) → f.length + r.length ≤ 100 →
    ∃ o5', loopC (gN 5) b__law_far_3 (st.length + 1 + ex.length) fuel d.length [p0, p1, some (.cell st.length), some (.int i), o4, o5, o6, o7, o8, o9, o10] (st ++ ((false, .dK (gk f) (gv f)) :: (ex ++ [(false, .lst (all.map eN))]))) = .ok (.nx [p0, p1, some (.cell st.length), some (.int i), o4, o5', o6, o7, o8, o9, o10]) (st ++ ((false, .dK (gk (f ++ r.map fun a => (a, i))) (gv (f ++ r.map fun a => (a, i)))) :: (ex ++ [(false, .lst (all.map eN))])))
  | r, d, 0, f, o5, _, h, _, _ => absurd h (Nat.not_lt_zero _)
  | [], d, fuel + 1, f, o5, e, _, _, _ => by
    refine ⟨o5, ?_⟩
    rw [List.append_nil] at e
    have g0 : (st ++ ((false, MO.dK (gk f) (gv f)) :: (ex ++ [(false, .lst (all.map eN))])))[st.length + 1 + ex.length]? = some (false, .lst (all.map eN)) := by
      rw [show st.length + 1 + ex.length = st.length + (ex.length + 1) by omega, get_app, List.getElem?_cons_succ, get_app0]
      rfl
    rw [loopC_end g0 (by rw [List.getElem?_map, ← e]; simp), List.map_nil, List.append_nil]
  | a :: r, d, fuel + 1, f, o5, e, hl, hn, hf => by
    rw [List.length_cons] at hl hf
    have g0 : (st ++ ((false, MO.dK (gk f) (gv f)) :: (ex ++ [(false, .lst (all.map eN))])))[st.length + 1 + ex.length]? = some (false, .lst (all.map eN)) := by
      rw [show st.length + 1 + ex.length = st.length + (ex.length + 1) by omega, get_app, List.getElem?_cons_succ, get_app0]
      rfl
    have ra : a ∉ r := fun z => by
      rw [← e, List.nodup_append] at hall
      exact (List.nodup_cons.mp hall.2.1).1 z
    obtain ⟨o5', ih⟩ := far_put i ex all hall p0 p1 o4 o6 o7 o8 o9 o10 r (d ++ [a]) fuel (f ++ [(a, i)]) (some (eN a)) (by rw [← e]; simp) (by omega) (fun x hx z => by
      rw [List.map_append, List.mem_append] at z
      rcases z with z | z
      · exact hn x (List.mem_cons_of_mem _ hx) z
      · have : x = a := by simpa using z
        exact ra (this ▸ hx)) (by rw [List.length_append, List.length_singleton]; omega)
    refine ⟨o5', ?_⟩
    have nk : kN a ∉ gk f := fun z => by
      obtain ⟨q, hq, e2⟩ := List.mem_map.mp z
      exact hn a (by simp) (List.mem_map.mpr ⟨q, hq, kN_inj.mp e2⟩)
    have hl2 : (gk f).length < lim := by rw [List.length_map]; exact Nat.lt_of_le_of_lt (show f.length ≤ 100 by omega) (by decide)
    have hb : b__law_far_3 [p0, p1, some (.cell st.length), some (.int i), o4, some (eN a), o6, o7, o8, o9, o10] (st ++ ((false, .dK (gk f) (gv f)) :: (ex ++ [(false, .lst (all.map eN))]))) = .ok (.nx [p0, p1, some (.cell st.length), some (.int i), o4, some (eN a), o6, o7, o8, o9, o10]) (st ++ ((false, .dK (gk (f ++ [(a, i)])) (gv (f ++ [(a, i)]))) :: (ex ++ [(false, .lst (all.map eN))]))) := by
      unfold b__law_far_3
      simp only [sSeq, sAsg, sRet, sRetN, sIf, sNext, sBad, sExpr, vVar, vC, v1, v2, v3, vA, vM, aNil, aCons, bOf, bNot, bAnd, bOr, vAnd, vOr, vNot, vIf, bYes, gN, startL, z_ok, z_bad, noX_okE, List.map_cons, List.map_nil, List.length_cons, List.length_nil, List.cons_append, List.nil_append, List.getElem?_cons_zero, List.getElem?_cons_succ, List.set_cons_zero, List.set_cons_succ, List.replicate_succ, List.replicate_zero, Nat.reduceAdd, Nat.reduceSub, if_true, if_false, Bool.false_eq_true, Bool.true_eq_false, Bool.not_true, Bool.not_false, eq_self, true_and, and_true, and_self, Nat.reduceLT, Nat.reduceLeDiff, Bool.and_true, Bool.true_and, Bool.and_false, Bool.false_and, decide_true, decide_false, sPut, hPut, get_app0, pur_int, key_N, if_pos hl2, kput, if_neg nk, set_app0, List.map_append]
    have hx : (all.map eN)[d.length]? = some (eN a) := by rw [List.getElem?_map, ← e]; simp
    rw [loopC_step g0 hx rfl hb]
    rw [show (d ++ [a]).length = d.length + 1 by simp, List.append_assoc] at ih
    exact ih
theorem forA_gen (n c : Nat) (g : Tg) (b : Fs) (ρ : Lo) (s : Sto) : (Z.ok (T.cell c) s).then (fun t s => match t with
  | .cell c => loopC g b c n 0 ρ s
  | .lst xs => loop g b xs ρ s
  | .scr xs => loop g b xs ρ s
  | _ => .bad) = loopC g b c n 0 ρ s := rfl
theorem forA_cell {f : Fx} {g : Tg} {b : Fs} {ρ : Lo} {st s : Sto} {c : Nat} {z : Z Fl} (h : f ρ st = .ok (.cell c) s) (hl : loopC g b c lim 0 ρ s = z) : sForA f g b ρ st = z := by
  rw [← hl]
  unfold sForA
  rw [h]
  exact forA_gen lim c g b ρ s
theorem range1_ok {fa : Fa} {ρ : Lo} {st s : Sto} {j : Int} {k : Nat} (h : fa ρ st = .ok [.int j] s) (h1 : -1000 ≤ j) (h2 : j ≤ 1000) (e : j.toNat = k) : iRange1 fa ρ st = .ok (rngT 0 k) s := by
  have hr : rgOk j = true := by
    unfold rgOk rgB
    rw [decide_eq_true (show -1000000 ≤ j by omega), decide_eq_true (show j ≤ 1000000 by omega)]
    rfl
  subst e
  unfold iRange1
  rw [h]
  simp only [z_ok, asI1, hr, if_true]
theorem sFor_ok {fi : Fa} {g : Tg} {b : Fs} {ρ : Lo} {st s : Sto} {xs : List T} {z : Z Fl} (h : fi ρ st = .ok xs s) (hl : loop g b xs ρ s = z) : sFor fi g b ρ st = z := by
  rw [← hl]
  unfold sFor
  rw [h, z_ok]
theorem f_far (b : Bd N) (hb : b.Ok) {t : T} {F : List (Mv N)} (h : SV t F) : F__law_far [ePlan b, t] st = .ok (.dK (gk (b.fnd F b.fs.length)) (gv (b.fnd F b.fs.length))) st := by
  have hn := hb.nod
  have small : ∀ i, (b.fnd F i).length ≤ 8 := fun i => by
    have := nodup_len (fnd_nodup hn F i) (fnd_sub b F i)
    rw [List.length_map] at this
    have e : b.names.length = b.fs.length := by unfold Bd.names; rw [List.length_map]
    have := hb.few
    omega
  have lateN : ∀ i, (b.late F (b.fnd F i)).Nodup := fun i => hn.filter _
  have lateL : ∀ i, (b.late F (b.fnd F i)).length ≤ 8 := fun i => by
    have : (b.late F (b.fnd F i)).length ≤ b.names.length := List.length_filter_le _ _
    have e : b.names.length = b.fs.length := by unfold Bd.names; rw [List.length_map]
    have := hb.few
    omega
  have hloop : ∀ (k i : Nat) (ex : Sto) (o3 o4 o5 o6 o7 o8 o9 : Option T), ∃ ex' o3' o4' o5' o6' o7' o8' o9', loop (gN 3) b__law_far_4 (rngT (i : Int) k) [some (ePlan b), some t, some (.cell st.length), o3, o4, o5, o6, o7, o8, o9, none] (st ++ ((false, .dK (gk (b.fnd F i)) (gv (b.fnd F i))) :: ex)) = .ok (.nx [some (ePlan b), some t, some (.cell st.length), o3', o4', o5', o6', o7', o8', o9', none]) (st ++ ((false, .dK (gk (b.fnd F (i + k))) (gv (b.fnd F (i + k)))) :: ex')) := by
    intro k
    induction k with
    | zero => exact fun i ex o3 o4 o5 o6 o7 o8 o9 => ⟨ex, o3, o4, o5, o6, o7, o8, o9, rfl⟩
    | succ k ih =>
      intro i ex o3 o4 o5 o6 o7 o8 o9
      have blen : (st ++ ((false, MO.dK (gk (b.fnd F i)) (gv (b.fnd F i))) :: ex)).length = st.length + 1 + ex.length := by simp; omega
      obtain ⟨q5, q6, q7, q8, q9, h1⟩ := far_rows b hb h (b.fnd F i) st.length (st ++ ((false, .dK (gk (b.fnd F i)) (gv (b.fnd F i))) :: ex)) (fun d => .cell (b := false) (by rw [List.append_assoc, get_app0]; rfl)) (some (.int i)) none b.fs [] o5 o6 o7 o8 o9 (fun _ z => z) (by have := hb.few; simp; omega)
      rw [List.nil_append] at h1
      have e1 : (b.fs.map (·.1)).filter (fun a => !(b.fnd F i).has a && forced (b.fld a) ((b.steps F a).map (b.fnd F i).has)) = b.late F (b.fnd F i) := rfl
      rw [e1, blen, List.append_assoc] at h1
      have dis : ∀ a ∈ b.late F (b.fnd F i), a ∉ (b.fnd F i).map (·.1) := fun a ha z => by
        unfold Bd.late at ha
        have := (List.mem_filter.mp ha).2
        rw [Bool.and_eq_true] at this
        have h2 := this.1
        unfold Fnd.has at h2
        rw [el_t z] at h2
        cases h2
      obtain ⟨p5, h2⟩ := far_put st (i : Int) ex (b.late F (b.fnd F i)) (lateN i) (some (ePlan b)) (some t) (some (.cell (st.length + 1 + ex.length))) q6 q7 q8 q9 none (b.late F (b.fnd F i)) [] lim (b.fnd F i) q5 rfl (Nat.lt_of_le_of_lt (lateL i) (by decide)) dis (by have := small i; have := lateL i; omega)
      rw [← fnd_succ, List.length_nil] at h2
      obtain ⟨ex', p3, p4, p5', p6, p7, p8, p9, ih⟩ := ih (i + 1) (ex ++ [(false, .lst ((b.late F (b.fnd F i)).map eN))]) (some (.int i)) (some (.cell (st.length + 1 + ex.length))) p5 q6 q7 q8 q9
      refine ⟨ex', p3, p4, p5', p6, p7, p8, p9, ?_⟩
      have hb4 : b__law_far_4 [some (ePlan b), some t, some (.cell st.length), some (.int i), o4, o5, o6, o7, o8, o9, none] (st ++ ((false, .dK (gk (b.fnd F i)) (gv (b.fnd F i))) :: ex)) = .ok (.nx [some (ePlan b), some t, some (.cell st.length), some (.int i), some (.cell (st.length + 1 + ex.length)), p5, q6, q7, q8, q9, none]) (st ++ ((false, .dK (gk (b.fnd F (i + 1))) (gv (b.fnd F (i + 1)))) :: (ex ++ [(false, .lst ((b.late F (b.fnd F i)).map eN))]))) := by
        have h1' : loop (gT [(gN 5), (gN 6), (gN 7), (gN 8)]) b__law_far_2 (b.fs.map eRow) [some (ePlan b), some t, some (.cell st.length), some (.int i), some (.cell (st.length + 1 + ex.length)), o5, o6, o7, o8, o9, none] (st ++ ((false, .dK (gk (b.fnd F i)) (gv (b.fnd F i))) :: (ex ++ [(false, .lst [])]))) = _ := h1
        have h3 := forA_cell (f := vVar 4) (g := gN 5) (b := b__law_far_3) (ρ := [some (ePlan b), some t, some (.cell st.length), some (.int i), some (.cell (st.length + 1 + ex.length)), q5, q6, q7, q8, q9, none]) (c := st.length + 1 + ex.length) rfl h2
        unfold b__law_far_4
        generalize sForA (vVar 4) (gN 5) b__law_far_3 = G at h3
        simp only [sSeq, sAsg, sRet, sRetN, sIf, sNext, sBad, sExpr, vVar, vC, v1, v2, v3, vA, vM, aNil, aCons, bOf, bNot, bAnd, bOr, vAnd, vOr, vNot, vIf, bYes, gN, startL, z_ok, z_bad, noX_okE, List.map_cons, List.map_nil, List.length_cons, List.length_nil, List.cons_append, List.nil_append, List.getElem?_cons_zero, List.getElem?_cons_succ, List.set_cons_zero, List.set_cons_succ, List.replicate_succ, List.replicate_zero, Nat.reduceAdd, Nat.reduceSub, if_true, if_false, Bool.false_eq_true, Bool.true_eq_false, Bool.not_true, Bool.not_false, eq_self, true_and, and_true, and_self, Nat.reduceLT, Nat.reduceLeDiff, Bool.and_true, Bool.true_and, Bool.and_false, Bool.false_and, decide_true, decide_false, hLstC, purs_nil, Nat.zero_le, blen, List.append_assoc, sFor, iSeq, plan0, h1', h3]
      unfold rngT
      rw [loop_step rfl hb4, show (i : Int) + 1 = ((i + 1 : Nat) : Int) from rfl, ih, show i + 1 + k = i + (k + 1) by omega]
  obtain ⟨ex', o3, o4, o5, o6, o7, o8, o9, hlp⟩ := hloop (b.fs.length + 1) 0 [] none none none none none none none
  rw [Nat.zero_add, fnd_end hn] at hlp
  have g0 : (st ++ ((false, MO.dK (gk (b.fnd F b.fs.length)) (gv (b.fnd F b.fs.length))) :: ex'))[st.length]? = some (false, .dK (gk (b.fnd F b.fs.length)) (gv (b.fnd F b.fs.length))) := by rw [get_app0]; rfl
  rw [F__law_far_eq]
  refine defF_fz (st' := st) (ex := (false, .dK (gk (b.fnd F b.fs.length)) (gv (b.fnd F b.fs.length))) :: ex') rfl ?_ rfl (t := .cell st.length) ?_
  · have hi : iRange1 (aCons (v2 hAddF (vA hLen (aCons (v2 hIx (vVar 0) (vC (.int 0))) aNil)) (vC (.int 1))) aNil) [some (ePlan b), some t, some (.cell st.length), none, none, none, none, none, none, none, none] (st ++ [(false, .dK [] [])]) = .ok (rngT 0 (b.fs.length + 1)) (st ++ [(false, .dK [] [])]) :=
      range1_ok (j := (b.fs.length : Int) + 1) (by simp only [sSeq, sAsg, sRet, sRetN, sIf, sNext, sBad, sExpr, vVar, vC, v1, v2, v3, vA, vM, aNil, aCons, bOf, bNot, bAnd, bOr, vAnd, vOr, vNot, vIf, bYes, gN, startL, z_ok, z_bad, noX_okE, List.map_cons, List.map_nil, List.length_cons, List.length_nil, List.cons_append, List.nil_append, List.getElem?_cons_zero, List.getElem?_cons_succ, List.set_cons_zero, List.set_cons_succ, List.replicate_succ, List.replicate_zero, Nat.reduceAdd, Nat.reduceSub, if_true, if_false, Bool.false_eq_true, Bool.true_eq_false, Bool.not_true, Bool.not_false, eq_self, true_and, and_true, and_self, Nat.reduceLT, Nat.reduceLeDiff, Bool.and_true, Bool.true_and, Bool.and_false, Bool.false_and, decide_true, decide_false, plan0, len_lst, List.length_map, add_int]) (by omega) (by have := hb.few; omega) (by omega)
    have e0 : b.fnd F 0 = [] := rfl
    have e1 : (gk ([] : Fnd N)) = [] := rfl
    have e2 : (gv ([] : Fnd N)) = [] := rfl
    rw [e0, e1, e2, Int.natCast_zero] at hlp
    have h3 := sFor_ok (g := gN 3) (b := b__law_far_4) hi hlp
    have h4 : ∀ G : Fs, G [some (ePlan b), some t, some (.cell st.length), none, none, none, none, none, none, none, none] (st ++ [(false, .dK [] [])]) = Z.ok (Fl.nx [some (ePlan b), some t, some (.cell st.length), o3, o4, o5, o6, o7, o8, o9, none]) (st ++ ((false, .dK (gk (b.fnd F b.fs.length)) (gv (b.fnd F b.fs.length))) :: ex')) → (sSeq (sAsg vNewKc (gN 2)) (sSeq G (sRet (vVar 2)))) (startL 11 [ePlan b, t]) st = .ok (.rt (.cell st.length)) (st ++ ((false, .dK (gk (b.fnd F b.fs.length)) (gv (b.fnd F b.fs.length))) :: ex')) := by
      intro G h3
      show (G [some (ePlan b), some t, some (.cell st.length), none, none, none, none, none, none, none, none] (st ++ [(false, .dK [] [])])).then _ = _
      rw [h3]
      rfl
    exact h4 _ h3
  · unfold fz
    rw [if_neg (Nat.lt_irrefl _), g0]
end
end V

set_option Elab.async false
set_option linter.all false
set_option maxRecDepth 100000
set_option maxHeartbeats 4000000
namespace V
open PySem L2 Sh
section
variable {N : NS} (st : Sto)
def eD (b : Bd N) (F : List (Mv N)) : T := .dK (b.names.map kN) (b.names.map fun a => eO (b.dist F a))
def low (b : Bd N) (F : List (Mv N)) (m : Int) (x : N.ν) : Bool := match b.dist F x with | some i => decide (i < m) | none => false
theorem ix_D (b : Bd N) (F : List (Mv N)) {a : N.ν} (ha : a ∈ b.names) (s : Sto) : hIx (eD b F) (eN a) s = .ok (eO (b.dist F a)) s := DV.dK.ix (key_N a) (kget_names _ ha)
theorem eq_nil (l : List N.ν) (s : Sto) : hEqF true (.lst (l.map eN)) (.lst []) s = .ok (.bl (decide (l = []))) s := eqT_enc (α := List N.ν) l [] s (show 0 + 1 ≤ 60 by decide)
theorem low_of {b : Bd N} {F : List (Mv N)} {m : Int} {a : N.ν} (h : low b F m a = true) : ∃ i : Nat, b.dist F a = some (i : Int) ∧ (i : Int) < m := by
  unfold low at h
  cases q : b.dist F a with
  | none => rw [q] at h; cases h
  | some i =>
    rw [q] at h
    obtain ⟨j, _, e, _⟩ := dist_fall b F q
    exact ⟨j, by rw [e], by rw [← e]; exact of_decide_eq_true h⟩
theorem at_pick {l : List N.ν} {r : Int} (h0 : 0 ≤ r) (h1 : r < (l.length : Int)) : ∃ a ∈ l, atI (l.map eN) r = some (eN a) := by
  have hr : r.toNat < l.length := by omega
  refine ⟨l[r.toNat], List.getElem_mem hr, ?_⟩
  have := atI_nat (xs := l.map eN) (j := r.toNat) (v := eN l[r.toNat]) (by rw [List.getElem?_map, List.getElem?_eq_getElem hr]; rfl)
  rw [Int.toNat_of_nonneg h0] at this
  exact this
theorem row1 (p : N.ν × Fd N) (s : Sto) : hIx (eRow p) (.int 1) s = .ok (.int p.2.ow) s := rfl
theorem row2 (p : N.ν × Fd N) (s : Sto) : hIx (eRow p) (.int 2) s = .ok (.tup (p.2.tg.map eN)) s := rfl
theorem row3 (p : N.ν × Fd N) (s : Sto) : hIx (eRow p) (.int 3) s = .ok (.bl p.2.go) s := rfl
theorem is_O (p : Bool) (o : Option Int) (s : Sto) : hIs p (eO o) .non s = .ok (.bl (if p then o.isNone else !o.isNone)) s := by
  cases o <;> cases p <;> rfl
/-- the steps that are kept -/
def kept (b : Bd N) (F : List (Mv N)) (m : Int) (a : N.ν) : List N.ν := if (b.fld a).ow = 1 then (b.steps F a).filter (low b F m) else b.steps F a
theorem kept_ok {b : Bd N} (hb : b.Ok) {F : List (Mv N)} {a : N.ν} {m : Nat} (h : b.dist F a = some (m : Int)) (hg : (b.fld a).go = false) (hs : b.steps F a ≠ []) : kept b F m a ≠ [] ∧ ∀ x ∈ kept b F m a, low b F m x = true ∧ x ∈ b.names := by
  obtain ⟨j, p, e, _, ha, hf, hp⟩ := dist_fall b F h
  have e : m = j := by omega
  subst e
  have hpl : ∀ x, p x = true → low b F m x = true := fun x hx => by
    obtain ⟨i, h1, h2⟩ := hp x hx
    unfold low
    rw [h1]
    exact decide_eq_true (by omega)
  unfold forced at hf
  rw [hg, Bool.false_or] at hf
  unfold kept
  split
  · rename_i o
    rw [if_pos o, List.any_eq_true] at hf
    obtain ⟨v, hv, hv2⟩ := hf
    obtain ⟨x, hx, rfl⟩ := List.mem_map.mp hv
    refine ⟨fun z => ?_, fun y hy => ⟨(List.mem_filter.mp hy).2, steps_names (List.mem_filter.mp hy).1⟩⟩
    have : x ∈ (b.steps F a).filter (low b F m) := List.mem_filter.mpr ⟨hx, hpl x hv2⟩
    rw [z] at this
    exact nomatch this
  · rename_i o
    rw [if_neg o, List.all_eq_true] at hf
    exact ⟨hs, fun x hx => ⟨hpl x (hf _ (List.mem_map.mpr ⟨x, hx, rfl⟩)), steps_names hx⟩⟩
theorem stuck_ok {b : Bd N} (hb : b.Ok) {F : List (Mv N)} {a : N.ν} {m : Int} (h : b.dist F a = some m) (hg : (b.fld a).go = false) (hs : b.steps F a = []) : (b.fld a).ow = 2 := by
  obtain ⟨j, p, e, _, ha, hf, hp⟩ := dist_fall b F h
  unfold forced at hf
  rw [hg, hs, Bool.false_or] at hf
  rcases fld_ow hb ha with o | o
  · rw [if_pos o] at hf; cases hf
  · exact o
theorem zero_ok {b : Bd N} (hb : b.Ok) {F : List (Mv N)} {a : N.ν} (h : b.dist F a = some 0) (hg : (b.fld a).go = false) : (b.fld a).ow = 2 ∧ b.steps F a = [] := by
  obtain ⟨j, p, e, _, ha, hf, hp⟩ := dist_fall b F h
  have e : j = 0 := by omega
  subst e
  have pf : ∀ x, p x = false := fun x => by
    cases q : p x with
    | false => rfl
    | true => obtain ⟨i, _, l⟩ := hp x q; omega
  unfold forced at hf
  rw [hg, Bool.false_or] at hf
  rcases fld_ow hb ha with o | o
  · rw [if_pos o, List.any_eq_true] at hf
    obtain ⟨v, hv, hv2⟩ := hf
    obtain ⟨x, _, rfl⟩ := List.mem_map.mp hv
    rw [pf] at hv2
    cases hv2
  · refine ⟨o, ?_⟩
    rw [if_neg (by rw [o]; decide), List.all_eq_true] at hf
    cases q : b.steps F a with
    | nil => rfl
    | cons x r =>
      have := hf (p x) (List.mem_map.mpr ⟨x, by rw [q]; simp, rfl⟩)
      rw [pf] at this
      cases this
/-- one turn of the game -/
theorem game_turn {c : Nat} (h : HasD c st) (b : Bd N) (hb : b.Ok) {t : T} {F : List (Mv N)} (hs : SV t F) {a : N.ν} {m : Nat} (ha : b.dist F a = some (m : Int)) (o5 o6 o7 : Option T) :
    ∃ ds, b__law_game_right_3 [some (.cell c), some (ePlan b), some t, some (eD b F), some (eN a), o5, o6, o7, none] st = .ok (.rt (.bl true)) (dr c ds st) ∨
      ∃ a' m' o6' o7', b.dist F a' = some ((m' : Nat) : Int) ∧ m' < m ∧ b__law_game_right_3 [some (.cell c), some (ePlan b), some t, some (eD b F), some (eN a), o5, o6, o7, none] st = .ok (.nx [some (.cell c), some (ePlan b), some t, some (eD b F), some (eN a'), o5, o6', o7', none]) (dr c ds st) := by
  obtain ⟨j, p, e, _, hn, _⟩ := dist_fall b F ha
  obtain ⟨es, he⟩ := id h
  have same : dr c es st = st := set_same he
  have hr := f_rowN st b hb hn
  have hw := f_ways st b hb hs hn
  cases hg : (b.fld a).go with
  | true =>
    refine ⟨es, .inl ?_⟩
    rw [same]
    unfold b__law_game_right_3
    simp only [sSeq, sAsg, sRet, sRetN, sIf, sNext, sBad, sExpr, vVar, vC, v1, v2, v3, vA, vM, aNil, aCons, bOf, bNot, bAnd, bOr, vAnd, vOr, vNot, vIf, bYes, gN, startL, z_ok, z_bad, noX_okE, List.map_cons, List.map_nil, List.length_cons, List.length_nil, List.cons_append, List.nil_append, List.getElem?_cons_zero, List.getElem?_cons_succ, List.set_cons_zero, List.set_cons_succ, List.replicate_succ, List.replicate_zero, Nat.reduceAdd, Nat.reduceSub, if_true, if_false, Bool.false_eq_true, Bool.true_eq_false, Bool.not_true, Bool.not_false, eq_self, true_and, and_true, and_self, Nat.reduceLT, Nat.reduceLeDiff, Bool.and_true, Bool.true_and, Bool.and_false, Bool.false_and, decide_true, decide_false, hr, hw, row3, hg]
  | false =>
    by_cases hst : b.steps F a = []
    · refine ⟨es, .inl ?_⟩
      rw [same]
      unfold b__law_game_right_3
      simp only [sSeq, sAsg, sRet, sRetN, sIf, sNext, sBad, sExpr, vVar, vC, v1, v2, v3, vA, vM, aNil, aCons, bOf, bNot, bAnd, bOr, vAnd, vOr, vNot, vIf, bYes, gN, startL, z_ok, z_bad, noX_okE, List.map_cons, List.map_nil, List.length_cons, List.length_nil, List.cons_append, List.nil_append, List.getElem?_cons_zero, List.getElem?_cons_succ, List.set_cons_zero, List.set_cons_succ, List.replicate_succ, List.replicate_zero, Nat.reduceAdd, Nat.reduceSub, if_true, if_false, Bool.false_eq_true, Bool.true_eq_false, Bool.not_true, Bool.not_false, eq_self, true_and, and_true, and_self, Nat.reduceLT, Nat.reduceLeDiff, Bool.and_true, Bool.true_and, Bool.and_false, Bool.false_and, decide_true, decide_false, hr, hw, row3, hg, hLst, Nat.zero_le, eq_nil, hst, row1, eq_int, stuck_ok hb ha hg hst, List.map_nil]
      rw [show hEqF true (.lst []) (.lst []) st = .ok (.bl true) st from eq_nil (N := N) [] st]
      simp only [sSeq, sAsg, sRet, sRetN, sIf, sNext, sBad, sExpr, vVar, vC, v1, v2, v3, vA, vM, aNil, aCons, bOf, bNot, bAnd, bOr, vAnd, vOr, vNot, vIf, bYes, gN, startL, z_ok, z_bad, noX_okE, List.map_cons, List.map_nil, List.length_cons, List.length_nil, List.cons_append, List.nil_append, List.getElem?_cons_zero, List.getElem?_cons_succ, List.set_cons_zero, List.set_cons_succ, List.replicate_succ, List.replicate_zero, Nat.reduceAdd, Nat.reduceSub, if_true, if_false, Bool.false_eq_true, Bool.true_eq_false, Bool.not_true, Bool.not_false, eq_self, true_and, and_true, and_self, Nat.reduceLT, Nat.reduceLeDiff, Bool.and_true, Bool.true_and, Bool.and_false, Bool.false_and, decide_true, decide_false]
    · obtain ⟨k1, k2⟩ := kept_ok hb ha hg hst
      have kl : (kept b F m a).length ≤ 100 := by
        unfold kept
        split
        · exact Nat.le_trans (List.length_filter_le _ _) (steps_len b hb.few F a)
        · exact steps_len b hb.few F a
      have kp : 0 < (kept b F m a).length := List.length_pos_iff.mpr k1
      obtain ⟨r, ds, ht, r0, r1⟩ := f_take st h ((kept b F m a).length : Int) (by omega)
      obtain ⟨a', ha', hx⟩ := at_pick r0 r1
      obtain ⟨m', hm', lm'⟩ := low_of (k2 a' ha').1
      refine ⟨ds, .inr ⟨a', m', some (eRow (a, b.fld a)), some (.lst ((kept b F m a).map eN)), hm', by omega, ?_⟩⟩
      have hq1 : ∀ (o6 : Option T), q__law_game_right_1 [some (.cell c), some (ePlan b), some t, some (eD b F), some (eN a), o5, o6, some (.lst ((b.steps F a).map eN)), none] st = .ok (.lst (((b.steps F a).filter (low b F m)).map eN)) st := fun o6 => by
        unfold q__law_game_right_1
        refine vLc_go (s := st) (l := b.steps F a) (enc := eN) (p := low b F m) (h := eN) (by simp only [iSeq, sSeq, sAsg, sRet, sRetN, sIf, sNext, sBad, sExpr, vVar, vC, v1, v2, v3, vA, vM, aNil, aCons, bOf, bNot, bAnd, bOr, vAnd, vOr, vNot, vIf, bYes, gN, startL, z_ok, z_bad, noX_okE, List.map_cons, List.map_nil, List.length_cons, List.length_nil, List.cons_append, List.nil_append, List.getElem?_cons_zero, List.getElem?_cons_succ, List.set_cons_zero, List.set_cons_succ, List.replicate_succ, List.replicate_zero, Nat.reduceAdd, Nat.reduceSub, if_true, if_false, Bool.false_eq_true, Bool.true_eq_false, Bool.not_true, Bool.not_false, eq_self, true_and, and_true, and_self, Nat.reduceLT, Nat.reduceLeDiff, Bool.and_true, Bool.true_and, Bool.and_false, Bool.false_and, decide_true, decide_false]) (Nat.le_trans (steps_len b hb.few F a) (by decide)) fun x hx => ⟨_, rfl, ?_, fun _ => by simp only [sSeq, sAsg, sRet, sRetN, sIf, sNext, sBad, sExpr, vVar, vC, v1, v2, v3, vA, vM, aNil, aCons, bOf, bNot, bAnd, bOr, vAnd, vOr, vNot, vIf, bYes, gN, startL, z_ok, z_bad, noX_okE, List.map_cons, List.map_nil, List.length_cons, List.length_nil, List.cons_append, List.nil_append, List.getElem?_cons_zero, List.getElem?_cons_succ, List.set_cons_zero, List.set_cons_succ, List.replicate_succ, List.replicate_zero, Nat.reduceAdd, Nat.reduceSub, if_true, if_false, Bool.false_eq_true, Bool.true_eq_false, Bool.not_true, Bool.not_false, eq_self, true_and, and_true, and_self, Nat.reduceLT, Nat.reduceLeDiff, Bool.and_true, Bool.true_and, Bool.and_false, Bool.false_and, decide_true, decide_false, wipeL]⟩
        unfold low
        cases q : b.dist F x with
        | none => simp only [sSeq, sAsg, sRet, sRetN, sIf, sNext, sBad, sExpr, vVar, vC, v1, v2, v3, vA, vM, aNil, aCons, bOf, bNot, bAnd, bOr, vAnd, vOr, vNot, vIf, bYes, gN, startL, z_ok, z_bad, noX_okE, List.map_cons, List.map_nil, List.length_cons, List.length_nil, List.cons_append, List.nil_append, List.getElem?_cons_zero, List.getElem?_cons_succ, List.set_cons_zero, List.set_cons_succ, List.replicate_succ, List.replicate_zero, Nat.reduceAdd, Nat.reduceSub, if_true, if_false, Bool.false_eq_true, Bool.true_eq_false, Bool.not_true, Bool.not_false, eq_self, true_and, and_true, and_self, Nat.reduceLT, Nat.reduceLeDiff, Bool.and_true, Bool.true_and, Bool.and_false, Bool.false_and, decide_true, decide_false, wipeL, ix_D b F (steps_names hx), q, is_O, Option.isNone_none]
        | some i =>
          have e1 : eO (some i) = .int i := rfl
          have e2 : eO (some (m : Int)) = .int m := rfl
          simp only [sSeq, sAsg, sRet, sRetN, sIf, sNext, sBad, sExpr, vVar, vC, v1, v2, v3, vA, vM, aNil, aCons, bOf, bNot, bAnd, bOr, vAnd, vOr, vNot, vIf, bYes, gN, startL, z_ok, z_bad, noX_okE, List.map_cons, List.map_nil, List.length_cons, List.length_nil, List.cons_append, List.nil_append, List.getElem?_cons_zero, List.getElem?_cons_succ, List.set_cons_zero, List.set_cons_succ, List.replicate_succ, List.replicate_zero, Nat.reduceAdd, Nat.reduceSub, if_true, if_false, Bool.false_eq_true, Bool.true_eq_false, Bool.not_true, Bool.not_false, eq_self, true_and, and_true, and_self, Nat.reduceLT, Nat.reduceLeDiff, Bool.and_true, Bool.true_and, Bool.and_false, Bool.false_and, decide_true, decide_false, wipeL, ix_D b F (steps_names hx), ix_D b F hn, q, is_O, Option.isNone_some, ha]
          rw [e1, e2, lt_int]
          simp only [sSeq, sAsg, sRet, sRetN, sIf, sNext, sBad, sExpr, vVar, vC, v1, v2, v3, vA, vM, aNil, aCons, bOf, bNot, bAnd, bOr, vAnd, vOr, vNot, vIf, bYes, gN, startL, z_ok, z_bad, noX_okE, List.map_cons, List.map_nil, List.length_cons, List.length_nil, List.cons_append, List.nil_append, List.getElem?_cons_zero, List.getElem?_cons_succ, List.set_cons_zero, List.set_cons_succ, List.replicate_succ, List.replicate_zero, Nat.reduceAdd, Nat.reduceSub, if_true, if_false, Bool.false_eq_true, Bool.true_eq_false, Bool.not_true, Bool.not_false, eq_self, true_and, and_true, and_self, Nat.reduceLT, Nat.reduceLeDiff, Bool.and_true, Bool.true_and, Bool.and_false, Bool.false_and, decide_true, decide_false]
      have hq2 : ∀ (o6 : Option T), q__law_game_right_2 [some (.cell c), some (ePlan b), some t, some (eD b F), some (eN a), o5, o6, some (.lst ((kept b F m a).map eN)), none] st = .ok (.lst ((kept b F m a).map fun _ => .bl true)) st := fun o6 => by
        unfold q__law_game_right_2
        refine vLc_goA (s := st) (l := kept b F m a) (enc := eN) (h := fun _ => .bl true) (by simp only [iSeq, sSeq, sAsg, sRet, sRetN, sIf, sNext, sBad, sExpr, vVar, vC, v1, v2, v3, vA, vM, aNil, aCons, bOf, bNot, bAnd, bOr, vAnd, vOr, vNot, vIf, bYes, gN, startL, z_ok, z_bad, noX_okE, List.map_cons, List.map_nil, List.length_cons, List.length_nil, List.cons_append, List.nil_append, List.getElem?_cons_zero, List.getElem?_cons_succ, List.set_cons_zero, List.set_cons_succ, List.replicate_succ, List.replicate_zero, Nat.reduceAdd, Nat.reduceSub, if_true, if_false, Bool.false_eq_true, Bool.true_eq_false, Bool.not_true, Bool.not_false, eq_self, true_and, and_true, and_self, Nat.reduceLT, Nat.reduceLeDiff, Bool.and_true, Bool.true_and, Bool.and_false, Bool.false_and, decide_true, decide_false]) (Nat.le_trans kl (by decide)) fun x hx => ⟨_, rfl, ?_⟩
        obtain ⟨i, q, li⟩ := low_of (k2 x hx).1
        have e1 : eO (some (i : Int)) = .int i := rfl
        have e2 : eO (some (m : Int)) = .int m := rfl
        simp only [sSeq, sAsg, sRet, sRetN, sIf, sNext, sBad, sExpr, vVar, vC, v1, v2, v3, vA, vM, aNil, aCons, bOf, bNot, bAnd, bOr, vAnd, vOr, vNot, vIf, bYes, gN, startL, z_ok, z_bad, noX_okE, List.map_cons, List.map_nil, List.length_cons, List.length_nil, List.cons_append, List.nil_append, List.getElem?_cons_zero, List.getElem?_cons_succ, List.set_cons_zero, List.set_cons_succ, List.replicate_succ, List.replicate_zero, Nat.reduceAdd, Nat.reduceSub, if_true, if_false, Bool.false_eq_true, Bool.true_eq_false, Bool.not_true, Bool.not_false, eq_self, true_and, and_true, and_self, Nat.reduceLT, Nat.reduceLeDiff, Bool.and_true, Bool.true_and, Bool.and_false, Bool.false_and, decide_true, decide_false, wipeL, ix_D b F (k2 x hx).2, ix_D b F hn, q, is_O, Option.isNone_some, ha]
        rw [e1, e2, lt_int, decide_eq_true li]
      have hall : hAll (fun bs => bs.all id) [.lst ((kept b F m a).map fun _ => .bl true)] st = .ok (.bl true) st := by
        rw [all_lstf (f := fun _ => true)]
        simp
      have kn : ∀ s, hEqF true (.lst ((kept b F m a).map eN)) (.lst []) s = .ok (.bl false) s := fun s => by rw [eq_nil, decide_eq_false k1]
      have end_ : ∀ o6, (sSeq (sIf (bOr (bOf (v2 (hEqF true) (vVar 7) (vA hLst aNil))) (bNot (bOf (vA (hAll fun bs => bs.all id) (aCons q__law_game_right_2 aNil))))) (sRet (vC (.bl false))) sNext) (sAsg (v2 hIx (vVar 7) (vA F__law_take (aCons (vVar 0) (aCons (vA hLen (aCons (vVar 7) aNil)) aNil)))) (gN 4))) [some (.cell c), some (ePlan b), some t, some (eD b F), some (eN a), o5, o6, some (.lst ((kept b F m a).map eN)), none] st = .ok (.nx [some (.cell c), some (ePlan b), some t, some (eD b F), some (eN a'), o5, o6, some (.lst ((kept b F m a).map eN)), none]) (dr c ds st) := fun o6 => by
        simp only [sSeq, sAsg, sRet, sRetN, sIf, sNext, sBad, sExpr, vVar, vC, v1, v2, v3, vA, vM, aNil, aCons, bOf, bNot, bAnd, bOr, vAnd, vOr, vNot, vIf, bYes, gN, startL, z_ok, z_bad, noX_okE, List.map_cons, List.map_nil, List.length_cons, List.length_nil, List.cons_append, List.nil_append, List.getElem?_cons_zero, List.getElem?_cons_succ, List.set_cons_zero, List.set_cons_succ, List.replicate_succ, List.replicate_zero, Nat.reduceAdd, Nat.reduceSub, if_true, if_false, Bool.false_eq_true, Bool.true_eq_false, Bool.not_true, Bool.not_false, eq_self, true_and, and_true, and_self, Nat.reduceLT, Nat.reduceLeDiff, Bool.and_true, Bool.true_and, Bool.and_false, Bool.false_and, decide_true, decide_false, hLst, Nat.zero_le, kn, hq2, hall, len_lst, List.length_map, ht, ixe_lst, hx]
      unfold b__law_game_right_3
      generalize hE : (sSeq (sIf (bOr (bOf (v2 (hEqF true) (vVar 7) (vA hLst aNil))) (bNot (bOf (vA (hAll fun bs => bs.all id) (aCons q__law_game_right_2 aNil))))) (sRet (vC (.bl false))) sNext) (sAsg (v2 hIx (vVar 7) (vA F__law_take (aCons (vVar 0) (aCons (vA hLen (aCons (vVar 7) aNil)) aNil)))) (gN 4))) = E at end_ ⊢
      unfold kept at end_ ⊢
      by_cases o : (b.fld a).ow = 1
      · simp only [if_pos o] at end_ ⊢
        simp only [sSeq, sAsg, sRet, sRetN, sIf, sNext, sBad, sExpr, vVar, vC, v1, v2, v3, vA, vM, aNil, aCons, bOf, bNot, bAnd, bOr, vAnd, vOr, vNot, vIf, bYes, gN, startL, z_ok, z_bad, noX_okE, List.map_cons, List.map_nil, List.length_cons, List.length_nil, List.cons_append, List.nil_append, List.getElem?_cons_zero, List.getElem?_cons_succ, List.set_cons_zero, List.set_cons_succ, List.replicate_succ, List.replicate_zero, Nat.reduceAdd, Nat.reduceSub, if_true, if_false, Bool.false_eq_true, Bool.true_eq_false, Bool.not_true, Bool.not_false, eq_self, true_and, and_true, and_self, Nat.reduceLT, Nat.reduceLeDiff, Bool.and_true, Bool.true_and, Bool.and_false, Bool.false_and, decide_true, decide_false, hr, hw, row3, hg, hLst, Nat.zero_le, eq_nil, decide_eq_false hst, row1, eq_int, decide_eq_true o, hq1, end_]
      · simp only [if_neg o] at end_ ⊢
        simp only [sSeq, sAsg, sRet, sRetN, sIf, sNext, sBad, sExpr, vVar, vC, v1, v2, v3, vA, vM, aNil, aCons, bOf, bNot, bAnd, bOr, vAnd, vOr, vNot, vIf, bYes, gN, startL, z_ok, z_bad, noX_okE, List.map_cons, List.map_nil, List.length_cons, List.length_nil, List.cons_append, List.nil_append, List.getElem?_cons_zero, List.getElem?_cons_succ, List.set_cons_zero, List.set_cons_succ, List.replicate_succ, List.replicate_zero, Nat.reduceAdd, Nat.reduceSub, if_true, if_false, Bool.false_eq_true, Bool.true_eq_false, Bool.not_true, Bool.not_false, eq_self, true_and, and_true, and_self, Nat.reduceLT, Nat.reduceLeDiff, Bool.and_true, Bool.true_and, Bool.and_false, Bool.false_and, decide_true, decide_false, hr, hw, row3, hg, hLst, Nat.zero_le, eq_nil, decide_eq_false hst, row1, eq_int, decide_eq_false o, end_]
theorem game_turns {c : Nat} (b : Bd N) (hb : b.Ok) {t : T} {F : List (Mv N)} (hs : SV t F) : ∀ (k i : Nat) (s : Sto) (a : N.ν) (m : Nat) (o5 o6 o7 : Option T), HasD c s → b.dist F a = some (m : Int) → m ≤ k →
    ∃ ds, loop (gN 5) b__law_game_right_3 (rngT (i : Int) k) [some (.cell c), some (ePlan b), some t, some (eD b F), some (eN a), o5, o6, o7, none] s = .ok (.rt (.bl true)) (dr c ds s) ∨
      ∃ a' o5' o6' o7', b.dist F a' = some 0 ∧ loop (gN 5) b__law_game_right_3 (rngT (i : Int) k) [some (.cell c), some (ePlan b), some t, some (eD b F), some (eN a), o5, o6, o7, none] s = .ok (.nx [some (.cell c), some (ePlan b), some t, some (eD b F), some (eN a'), o5', o6', o7', none]) (dr c ds s)
  | 0, i, s, a, m, o5, o6, o7, hd, ha, hm => by
    obtain ⟨es, he⟩ := hd
    have e : m = 0 := by omega
    subst e
    refine ⟨es, .inr ⟨a, o5, o6, o7, ha, ?_⟩⟩
    rw [show dr c es s = s from set_same he]
    rfl
  | k + 1, i, s, a, m, o5, o6, o7, hd, ha, hm => by
    obtain ⟨ds, h1⟩ := game_turn s hd b hb hs ha (some (.int i)) o6 o7
    unfold rngT
    rcases h1 with h1 | ⟨a', m', q6, q7, ha', hm', h1⟩
    · exact ⟨ds, .inl (loop_ret rfl h1)⟩
    · obtain ⟨es, h2⟩ := game_turns b hb hs k (i + 1) (dr c ds s) a' m' (some (.int i)) q6 q7 (hd.dr ds) ha' (by omega)
      rw [dr_dr] at h2
      refine ⟨es, ?_⟩
      rw [loop_step rfl h1, show (i : Int) + 1 = ((i + 1 : Nat) : Int) from rfl]
      exact h2
theorem f_game {c : Nat} (h : HasD c st) (b : Bd N) (hb : b.Ok) {t : T} {F : List (Mv N)} (hs : SV t F) {m : Int} (hm : b.dist F b.st = some m) : ∃ ds, F__law_game_right [.cell c, ePlan b, t, eD b F] st = .ok (.bl true) (dr c ds st) := by
  obtain ⟨j, p, e, lj, hn, _⟩ := dist_fall b F hm
  subst e
  have hrg : rgOk (j : Int) = true := by
    unfold rgOk rgB
    have := hb.few
    simp
    omega
  obtain ⟨ds, hl⟩ := game_turns (c := c) b hb hs j 0 st b.st j none none none h hm (Nat.le_refl _)
  have run : ∀ s', b__law_game_right (startL 9 [.cell c, ePlan b, t, eD b F]) st = .ok (.rt (.bl true)) s' → s'.length = st.length → F__law_game_right [.cell c, ePlan b, t, eD b F] st = .ok (.bl true) s' := fun s' h1 h2 => by
    have := defF_rt (fn := fnX) (n := 4) (N := 9) (b := b__law_game_right) (as := [.cell c, ePlan b, t, eD b F]) (st := st) (s' := s') (t := .bl true) rfl h1 rfl
    rw [← h2, List.take_length] at this
    exact this
  refine ⟨ds, run _ ?_ (dr_len c ds st)⟩
  have e2 : eO (some (j : Int)) = .int j := rfl
  have hix := ix_D b F hb.st st
  rw [hm, e2] at hix
  rcases hl with hl | ⟨a', o5, o6, o7, ha', hl⟩
  · have hl' : loop (gN 5) b__law_game_right_3 (rngT 0 j) [some (.cell c), some (ePlan b), some t, some (eD b F), some (eN b.st), none, none, none, none] st = _ := hl
    unfold b__law_game_right
    simp only [sSeq, sAsg, sRet, sRetN, sIf, sNext, sBad, sExpr, vVar, vC, v1, v2, v3, vA, vM, aNil, aCons, bOf, bNot, bAnd, bOr, vAnd, vOr, vNot, vIf, bYes, gN, startL, z_ok, z_bad, noX_okE, List.map_cons, List.map_nil, List.length_cons, List.length_nil, List.cons_append, List.nil_append, List.getElem?_cons_zero, List.getElem?_cons_succ, List.set_cons_zero, List.set_cons_succ, List.replicate_succ, List.replicate_zero, Nat.reduceAdd, Nat.reduceSub, if_true, if_false, Bool.false_eq_true, Bool.true_eq_false, Bool.not_true, Bool.not_false, eq_self, true_and, and_true, and_self, Nat.reduceLT, Nat.reduceLeDiff, Bool.and_true, Bool.true_and, Bool.and_false, Bool.false_and, decide_true, decide_false, plan1, sFor, iRange1, hix, asI1, hrg, Int.toNat_natCast, hl']
  · obtain ⟨_, _, _, _, hn', _⟩ := dist_fall b F ha'
    have hl' : loop (gN 5) b__law_game_right_3 (rngT 0 j) [some (.cell c), some (ePlan b), some t, some (eD b F), some (eN b.st), none, none, none, none] st = _ := hl
    have hr := f_rowN (dr c ds st) b hb hn'
    have hw := f_ways (dr c ds st) b hb hs hn'
    unfold b__law_game_right
    cases hg : (b.fld a').go with
    | true => simp only [sSeq, sAsg, sRet, sRetN, sIf, sNext, sBad, sExpr, vVar, vC, v1, v2, v3, vA, vM, aNil, aCons, bOf, bNot, bAnd, bOr, vAnd, vOr, vNot, vIf, bYes, gN, startL, z_ok, z_bad, noX_okE, List.map_cons, List.map_nil, List.length_cons, List.length_nil, List.cons_append, List.nil_append, List.getElem?_cons_zero, List.getElem?_cons_succ, List.set_cons_zero, List.set_cons_succ, List.replicate_succ, List.replicate_zero, Nat.reduceAdd, Nat.reduceSub, if_true, if_false, Bool.false_eq_true, Bool.true_eq_false, Bool.not_true, Bool.not_false, eq_self, true_and, and_true, and_self, Nat.reduceLT, Nat.reduceLeDiff, Bool.and_true, Bool.true_and, Bool.and_false, Bool.false_and, decide_true, decide_false, plan1, sFor, iRange1, hix, asI1, hrg, Int.toNat_natCast, hl', hr, row3, hg]
    | false =>
      obtain ⟨z1, z2⟩ := zero_ok hb ha' hg
      rw [z2] at hw
      simp only [sSeq, sAsg, sRet, sRetN, sIf, sNext, sBad, sExpr, vVar, vC, v1, v2, v3, vA, vM, aNil, aCons, bOf, bNot, bAnd, bOr, vAnd, vOr, vNot, vIf, bYes, gN, startL, z_ok, z_bad, noX_okE, List.map_cons, List.map_nil, List.length_cons, List.length_nil, List.cons_append, List.nil_append, List.getElem?_cons_zero, List.getElem?_cons_succ, List.set_cons_zero, List.set_cons_succ, List.replicate_succ, List.replicate_zero, Nat.reduceAdd, Nat.reduceSub, if_true, if_false, Bool.false_eq_true, Bool.true_eq_false, Bool.not_true, Bool.not_false, eq_self, true_and, and_true, and_self, Nat.reduceLT, Nat.reduceLeDiff, Bool.and_true, Bool.true_and, Bool.and_false, Bool.false_and, decide_true, decide_false, plan1, sFor, iRange1, hix, asI1, hrg, Int.toNat_natCast, hl', hr, row3, hg, row1, z1, eq_int, hw, hLst, Nat.zero_le]
      rw [show hEqF true (.lst []) (.lst []) (dr c ds st) = .ok (.bl true) (dr c ds st) from eq_nil (N := N) [] _]
      simp only [sSeq, sAsg, sRet, sRetN, sIf, sNext, sBad, sExpr, vVar, vC, v1, v2, v3, vA, vM, aNil, aCons, bOf, bNot, bAnd, bOr, vAnd, vOr, vNot, vIf, bYes, gN, startL, z_ok, z_bad, noX_okE, List.map_cons, List.map_nil, List.length_cons, List.length_nil, List.cons_append, List.nil_append, List.getElem?_cons_zero, List.getElem?_cons_succ, List.set_cons_zero, List.set_cons_succ, List.replicate_succ, List.replicate_zero, Nat.reduceAdd, Nat.reduceSub, if_true, if_false, Bool.false_eq_true, Bool.true_eq_false, Bool.not_true, Bool.not_false, eq_self, true_and, and_true, and_self, Nat.reduceLT, Nat.reduceLeDiff, Bool.and_true, Bool.true_and, Bool.and_false, Bool.false_and, decide_true, decide_false]
end
/-! the law -/
section
variable {N : NS}
theorem items_D (b : Bd N) (F : List (Mv N)) (s : Sto) : hItems (eD b F) s = .ok (Enc.t (α := List (N.ν × Option Int)) (b.names.map fun a => (a, b.dist F a))) s := by
  unfold hItems
  rw [show asDK s (eD b F) = some (b.names.map kN, b.names.map fun a => eO (b.dist F a)) from rfl]
  simp only
  rw [List.zipWith_map]
  have : ∀ l : List N.ν, List.zipWith (fun a b' => T.tup [kT (kN a), eO (b.dist F b')]) l l = (l.map fun a => (a, b.dist F a)).map Enc.t := by
    intro l
    induction l with
    | nil => rfl
    | cons a l ih => rw [List.zipWith_cons_cons, ih]; rfl
  rw [this]
  rfl
theorem law_more {c : Nat} {st : Sto} (h : HasD c st) (b : Bd N) (hb : b.Ok) (i : Int) (o0 o2 o6 o7 o8 : Option T) :
    ∃ ds o6' o7' o8', b_law_2 [o0, some (.cell c), o2, some (ePlan b), some (eB b), some (.int i), o6, o7, o8, none] st = .ok (.nx [o0, some (.cell c), o2, some (ePlan b), some (eB b), some (.int i), o6', o7', o8', none]) (dr c ds st) := by
  have key : ∃ (F : List (Mv N)) (d1 : List Int), (vIf (bOf (v2 hGt (vVar 5) (vC (.int 0)))) (vA F__law_set (aCons (vVar 1) (aCons (vVar 3) aNil))) (vA hTup aNil)) [o0, some (.cell c), o2, some (ePlan b), some (eB b), some (.int i), o6, o7, o8, none] st = .ok (eS F) (dr c d1 st) ∧ b.set F := by
    by_cases hi : 0 < i
    · obtain ⟨F, d1, h1, h2⟩ := f_set st h b hb
      exact ⟨F, d1, by simp only [sSeq, sAsg, sRet, sRetN, sIf, sNext, sBad, sExpr, vVar, vC, v1, v2, v3, vA, vM, aNil, aCons, bOf, bNot, bAnd, bOr, vAnd, vOr, vNot, vIf, bYes, gN, startL, z_ok, z_bad, noX_okE, List.map_cons, List.map_nil, List.length_cons, List.length_nil, List.cons_append, List.nil_append, List.getElem?_cons_zero, List.getElem?_cons_succ, List.set_cons_zero, List.set_cons_succ, List.replicate_succ, List.replicate_zero, Nat.reduceAdd, Nat.reduceSub, if_true, if_false, Bool.false_eq_true, Bool.true_eq_false, Bool.not_true, Bool.not_false, eq_self, true_and, and_true, and_self, Nat.reduceLT, Nat.reduceLeDiff, Bool.and_true, Bool.true_and, Bool.and_false, Bool.false_and, decide_true, decide_false, gt_int, decide_eq_true hi, h1], h2⟩
    · obtain ⟨es, he⟩ := id h
      refine ⟨[], es, ?_, And.intro (fun m (hm : m ∈ ([] : List (Mv N))) => nomatch hm) ?_⟩
      · rw [show dr c es st = st from set_same he]
        simp only [sSeq, sAsg, sRet, sRetN, sIf, sNext, sBad, sExpr, vVar, vC, v1, v2, v3, vA, vM, aNil, aCons, bOf, bNot, bAnd, bOr, vAnd, vOr, vNot, vIf, bYes, gN, startL, z_ok, z_bad, noX_okE, List.map_cons, List.map_nil, List.length_cons, List.length_nil, List.cons_append, List.nil_append, List.getElem?_cons_zero, List.getElem?_cons_succ, List.set_cons_zero, List.set_cons_succ, List.replicate_succ, List.replicate_zero, Nat.reduceAdd, Nat.reduceSub, if_true, if_false, Bool.false_eq_true, Bool.true_eq_false, Bool.not_true, Bool.not_false, eq_self, true_and, and_true, and_self, Nat.reduceLT, Nat.reduceLeDiff, Bool.and_true, Bool.true_and, Bool.and_false, Bool.false_and, decide_true, decide_false, gt_int, decide_eq_false hi, hTup, Nat.zero_le]
        rfl
      · exact (List.filter_eq_nil_iff.mpr fun m _ => by rw [el_f (fun z : m ∈ ([] : List (Mv N)) => nomatch z)]; exact Bool.false_ne_true).symm
  obtain ⟨F, d1, hF, hset⟩ := key
  have sv : SV (eS F) F := SV.tup
  have far := f_far (dr c d1 st) b hb sv
  have dis := f_distances (dr c d1 st) b hb sv hset
  have win := f_is_winning (dr c d1 st) b hb sv hset
  have dis : F_distances [eB b, eS F] (dr c d1 st) = .ok (eD b F) (dr c d1 st) := dis
  have hq : ∀ o6, q_law_1 [o0, some (.cell c), o2, some (ePlan b), some (eB b), some (.int i), o6, some (.dK (gk (b.fnd F b.fs.length)) (gv (b.fnd F b.fs.length))), some (eD b F), none] (dr c d1 st) = .ok (Enc.t (α := List (N.ν × Option Int)) (b.names.map fun a => (a, b.dist F a))) (dr c d1 st) := fun o6 => by
    unfold q_law_1
    rw [vLc_goA (s := dr c d1 st) (l := b.fs) (enc := eRow) (h := fun p => T.tup [eN p.1, eO (b.dist F p.1)]) (by simp only [iSeq, sSeq, sAsg, sRet, sRetN, sIf, sNext, sBad, sExpr, vVar, vC, v1, v2, v3, vA, vM, aNil, aCons, bOf, bNot, bAnd, bOr, vAnd, vOr, vNot, vIf, bYes, gN, startL, z_ok, z_bad, noX_okE, List.map_cons, List.map_nil, List.length_cons, List.length_nil, List.cons_append, List.nil_append, List.getElem?_cons_zero, List.getElem?_cons_succ, List.set_cons_zero, List.set_cons_succ, List.replicate_succ, List.replicate_zero, Nat.reduceAdd, Nat.reduceSub, if_true, if_false, Bool.false_eq_true, Bool.true_eq_false, Bool.not_true, Bool.not_false, eq_self, true_and, and_true, and_self, Nat.reduceLT, Nat.reduceLeDiff, Bool.and_true, Bool.true_and, Bool.and_false, Bool.false_and, decide_true, decide_false, plan0]) (Nat.le_trans hb.few (by decide)) fun p hp => ⟨_, rfl, ?_⟩]
    · unfold Bd.names
      rw [List.map_map]
      show _ = Z.ok (T.lst (List.map Enc.t _)) _
      rw [List.map_map]
      rfl
    · have i0 : ∀ s, hIx (eRow p) (.int 0) s = .ok (eN p.1) s := fun s => rfl
      have hd : isD (dr c d1 st) (.dK (gk (b.fnd F b.fs.length)) (gv (b.fnd F b.fs.length))) = true := rfl
      have hv : DV (dr c d1 st) (.dK (gk (b.fnd F b.fs.length)) (gv (b.fnd F b.fs.length))) (gk (b.fnd F b.fs.length)) (gv (b.fnd F b.fs.length)) := .dK
      simp only [sSeq, sAsg, sRet, sRetN, sIf, sNext, sBad, sExpr, vVar, vC, v1, v2, v3, vA, vM, aNil, aCons, bOf, bNot, bAnd, bOr, vAnd, vOr, vNot, vIf, bYes, gN, startL, z_ok, z_bad, noX_okE, List.map_cons, List.map_nil, List.length_cons, List.length_nil, List.cons_append, List.nil_append, List.getElem?_cons_zero, List.getElem?_cons_succ, List.set_cons_zero, List.set_cons_succ, List.replicate_succ, List.replicate_zero, Nat.reduceAdd, Nat.reduceSub, if_true, if_false, Bool.false_eq_true, Bool.true_eq_false, Bool.not_true, Bool.not_false, eq_self, true_and, and_true, and_self, Nat.reduceLT, Nat.reduceLeDiff, Bool.and_true, Bool.true_and, Bool.and_false, Bool.false_and, decide_true, decide_false, wipeL, i0, vGet1, hd, hv.get (key_N p.1), kget_G, hTup, if_pos lim2]
      unfold Bd.dist
      cases (b.fnd F b.fs.length).get p.1 <;> rfl
  have hne : hEqF false (Enc.t (α := List (N.ν × Option Int)) (b.names.map fun a => (a, b.dist F a))) (Enc.t (α := List (N.ν × Option Int)) (b.names.map fun a => (a, b.dist F a))) (dr c d1 st) = .ok (.bl false) (dr c d1 st) := by
    rw [neT_enc (α := List (N.ν × Option Int)) _ _ _ (show max 0 0 + 1 + 1 ≤ 60 by decide), decide_eq_true rfl]
    rfl
  have hin : hIn true (eN b.st) (.dK (gk (b.fnd F b.fs.length)) (gv (b.fnd F b.fs.length))) (dr c d1 st) = .ok (.bl (b.dist F b.st).isSome) (dr c d1 st) := by
    rw [DV.dK.in_ (key_N b.st), kget_has, has_get]
    rfl
  have hwe : hEqF false (.bl (b.dist F b.st).isSome) (.bl (b.dist F b.st).isSome) (dr c d1 st) = .ok (.bl false) (dr c d1 st) := by
    rw [show (T.bl (b.dist F b.st).isSome) = Enc.t (b.dist F b.st).isSome from rfl, neT_enc (α := Bool) _ _ _ (by decide), decide_eq_true rfl]
    rfl
  have hix := ix_D b F hb.st (dr c d1 st)
  cases q : b.dist F b.st with
  | none =>
    rw [q] at hix win hin hwe
    simp only [Option.isSome_none, Option.isSome_some] at win hin hwe
    refine ⟨d1, some (eS F), some (.dK (gk (b.fnd F b.fs.length)) (gv (b.fnd F b.fs.length))), some (eD b F), ?_⟩
    unfold b_law_2
    rw [show (sSeq (sAsg (vIf (bOf (v2 hGt (vVar 5) (vC (.int 0)))) (vA F__law_set (aCons (vVar 1) (aCons (vVar 3) aNil))) (vA hTup aNil)) (gN 6)) _) = _ from rfl]
    unfold sSeq sAsg
    simp only [hF, z_ok]
    simp only [sSeq, sAsg, sRet, sRetN, sIf, sNext, sBad, sExpr, vVar, vC, v1, v2, v3, vA, vM, aNil, aCons, bOf, bNot, bAnd, bOr, vAnd, vOr, vNot, vIf, bYes, gN, startL, z_ok, z_bad, noX_okE, List.map_cons, List.map_nil, List.length_cons, List.length_nil, List.cons_append, List.nil_append, List.getElem?_cons_zero, List.getElem?_cons_succ, List.set_cons_zero, List.set_cons_succ, List.replicate_succ, List.replicate_zero, Nat.reduceAdd, Nat.reduceSub, if_true, if_false, Bool.false_eq_true, Bool.true_eq_false, Bool.not_true, Bool.not_false, eq_self, true_and, and_true, and_self, Nat.reduceLT, Nat.reduceLeDiff, Bool.and_true, Bool.true_and, Bool.and_false, Bool.false_and, decide_true, decide_false, hTup, if_pos lim2, far, dis, gT, asT, gEach, items_D, hq, hne, win, plan1, hin, hwe, hix, is_O, Option.isNone_none, Option.isSome_none]
  | some m =>
    obtain ⟨d2, hgm⟩ := f_game (dr c d1 st) (h.dr d1) b hb sv q
    rw [dr_dr] at hgm
    rw [q] at hix win hin hwe
    simp only [Option.isSome_none, Option.isSome_some] at win hin hwe
    refine ⟨d2, some (eS F), some (.dK (gk (b.fnd F b.fs.length)) (gv (b.fnd F b.fs.length))), some (eD b F), ?_⟩
    unfold b_law_2
    unfold sSeq sAsg
    simp only [hF, z_ok]
    simp only [sSeq, sAsg, sRet, sRetN, sIf, sNext, sBad, sExpr, vVar, vC, v1, v2, v3, vA, vM, aNil, aCons, bOf, bNot, bAnd, bOr, vAnd, vOr, vNot, vIf, bYes, gN, startL, z_ok, z_bad, noX_okE, List.map_cons, List.map_nil, List.length_cons, List.length_nil, List.cons_append, List.nil_append, List.getElem?_cons_zero, List.getElem?_cons_succ, List.set_cons_zero, List.set_cons_succ, List.replicate_succ, List.replicate_zero, Nat.reduceAdd, Nat.reduceSub, if_true, if_false, Bool.false_eq_true, Bool.true_eq_false, Bool.not_true, Bool.not_false, eq_self, true_and, and_true, and_self, Nat.reduceLT, Nat.reduceLeDiff, Bool.and_true, Bool.true_and, Bool.and_false, Bool.false_and, decide_true, decide_false, hTup, if_pos lim2, far, dis, gT, asT, gEach, items_D, hq, hne, win, plan1, hin, hwe, hix, is_O, Option.isNone_some, Option.isSome_some, hgm]
theorem law_mores {c : Nat} (b : Bd N) (hb : b.Ok) (o0 o2 : Option T) : ∀ (k i : Nat) (s : Sto) (o5 o6 o7 o8 : Option T), HasD c s →
    ∃ ds o5' o6' o7' o8', loop (gN 5) b_law_2 (rngT (i : Int) k) [o0, some (.cell c), o2, some (ePlan b), some (eB b), o5, o6, o7, o8, none] s = .ok (.nx [o0, some (.cell c), o2, some (ePlan b), some (eB b), o5', o6', o7', o8', none]) (dr c ds s)
  | 0, i, s, o5, o6, o7, o8, ⟨es, he⟩ => ⟨es, o5, o6, o7, o8, by rw [show dr c es s = s from set_same he]; rfl⟩
  | k + 1, i, s, o5, o6, o7, o8, h => by
    obtain ⟨ds, q6, q7, q8, h1⟩ := law_more h b hb (i : Int) o0 o2 o6 o7 o8
    obtain ⟨es, p5, p6, p7, p8, h2⟩ := law_mores b hb o0 o2 k (i + 1) (dr c ds s) (some (.int i)) q6 q7 q8 (h.dr ds)
    rw [dr_dr] at h2
    refine ⟨es, p5, p6, p7, p8, ?_⟩
    unfold rngT
    rw [loop_step rfl h1]
    exact h2
end
theorem law_turn {c : Nat} {st : Sto} (h : HasD c st) (i : Int) (o0 o3 o4 o5 o6 o7 o8 : Option T) :
    ∃ ds o3' o4' o5' o6' o7' o8', b_law_3 [o0, some (.cell c), some (.int i), o3, o4, o5, o6, o7, o8, none] st = .ok (.nx [o0, some (.cell c), some (.int i), o3', o4', o5', o6', o7', o8', none]) (dr c ds st) := by
  obtain ⟨b, d1, h1, hb, _, l6, _⟩ := f_drawn st h
  have h6 : ∀ p ∈ b.fs, p.2.tg.length ≤ 6 := fun p hp => by
    have := nodup_len (hb.fok p hp).2 (hb.tgs p hp)
    have e : b.names.length = b.fs.length := by unfold Bd.names; rw [List.length_map]
    omega
  have h2 := f_built (dr c d1 st) b hb h6
  obtain ⟨d2, p5, p6, p7, p8, h3⟩ := law_mores b hb o0 (some (.int i)) 3 0 (dr c d1 st) o5 o6 o7 o8 (h.dr d1)
  rw [dr_dr] at h3
  refine ⟨d2, some (ePlan b), some (eB b), p5, p6, p7, p8, ?_⟩
  have h3' : loop (gN 5) b_law_2 (rngT 0 3) [o0, some (.cell c), some (.int i), some (ePlan b), some (eB b), o5, o6, o7, o8, none] (dr c d1 st) = _ := h3
  have r3 : rgOk 3 = true := by decide
  unfold b_law_3
  simp only [sSeq, sAsg, sRet, sRetN, sIf, sNext, sBad, sExpr, vVar, vC, v1, v2, v3, vA, vM, aNil, aCons, bOf, bNot, bAnd, bOr, vAnd, vOr, vNot, vIf, bYes, gN, startL, z_ok, z_bad, noX_okE, List.map_cons, List.map_nil, List.length_cons, List.length_nil, List.cons_append, List.nil_append, List.getElem?_cons_zero, List.getElem?_cons_succ, List.set_cons_zero, List.set_cons_succ, List.replicate_succ, List.replicate_zero, Nat.reduceAdd, Nat.reduceSub, if_true, if_false, Bool.false_eq_true, Bool.true_eq_false, Bool.not_true, Bool.not_false, eq_self, true_and, and_true, and_self, Nat.reduceLT, Nat.reduceLeDiff, Bool.and_true, Bool.true_and, Bool.and_false, Bool.false_and, decide_true, decide_false, h1, h2, sFor, iRange1, asI1, r3, show (3 : Int).toNat = 3 from rfl, h3']
theorem law_turns {c : Nat} (o0 : Option T) : ∀ (k i : Nat) (s : Sto) (o2 o3 o4 o5 o6 o7 o8 : Option T), HasD c s →
    ∃ ds o2' o3' o4' o5' o6' o7' o8', loop (gN 2) b_law_3 (rngT (i : Int) k) [o0, some (.cell c), o2, o3, o4, o5, o6, o7, o8, none] s = .ok (.nx [o0, some (.cell c), o2', o3', o4', o5', o6', o7', o8', none]) (dr c ds s)
  | 0, i, s, o2, o3, o4, o5, o6, o7, o8, ⟨es, he⟩ => ⟨es, o2, o3, o4, o5, o6, o7, o8, by rw [show dr c es s = s from set_same he]; rfl⟩
  | k + 1, i, s, o2, o3, o4, o5, o6, o7, o8, h => by
    obtain ⟨ds, q3, q4, q5, q6, q7, q8, h1⟩ := law_turn h (i : Int) o0 o3 o4 o5 o6 o7 o8
    obtain ⟨es, p2, p3, p4, p5, p6, p7, p8, h2⟩ := law_turns o0 k (i + 1) (dr c ds s) (some (.int i)) q3 q4 q5 q6 q7 q8 (h.dr ds)
    rw [dr_dr] at h2
    refine ⟨es, p2, p3, p4, p5, p6, p7, p8, ?_⟩
    unfold rngT
    rw [loop_step rfl h1]
    exact h2
theorem cut_ints (ns : List Int) (lo hi : Option Int) : ∃ ms : List Int, cutT (ns.map T.int) lo hi = ms.map T.int := by
  unfold cutT
  exact ⟨(ns.drop _).take _, by rw [List.map_take, List.map_drop]⟩
theorem law_true (ns : List Int) (_ : ns.length ≤ 63) : ∃ s, F_law [.scr (ns.map T.int)] [] = .ok (.bl true) s := by
  obtain ⟨ms, hms⟩ := cut_ints ns none (some 63)
  obtain ⟨ds, hp⟩ := f_pool [] ms
  have hd : HasD 0 [(false, .lst (ds.map .int))] := ⟨ds, rfl⟩
  obtain ⟨es, p2, p3, p4, p5, p6, p7, p8, hl⟩ := law_turns (c := 0) (some (.lst (ms.map .int))) 4 0 [(false, .lst (ds.map .int))] none none none none none none none hd
  refine ⟨_, defF_rt (s' := dr 0 es [(false, .lst (ds.map .int))]) rfl ?_ rfl⟩
  have hl' : loop (gN 2) b_law_3 (rngT 0 4) [some (.lst (ms.map .int)), some (.cell 0), none, none, none, none, none, none, none, none] [(false, .lst (ds.map .int))] = _ := hl
  have hp' : F__law_pool [.lst (ms.map .int), .tup [.int 1000003, .int 999983]] [] = .ok (.cell 0) [(false, .lst (ds.map .int))] := hp
  have r4 : rgOk 4 = true := by decide
  have asl : asL [] (.scr (ns.map T.int)) = some (ns.map T.int) := rfl
  unfold b_law
  simp only [sSeq, sAsg, sRet, sRetN, sIf, sNext, sBad, sExpr, vVar, vC, v1, v2, v3, vA, vM, aNil, aCons, bOf, bNot, bAnd, bOr, vAnd, vOr, vNot, vIf, bYes, gN, startL, z_ok, z_bad, noX_okE, List.map_cons, List.map_nil, List.length_cons, List.length_nil, List.cons_append, List.nil_append, List.getElem?_cons_zero, List.getElem?_cons_succ, List.set_cons_zero, List.set_cons_succ, List.replicate_succ, List.replicate_zero, Nat.reduceAdd, Nat.reduceSub, if_true, if_false, Bool.false_eq_true, Bool.true_eq_false, Bool.not_true, Bool.not_false, eq_self, true_and, and_true, and_self, Nat.reduceLT, Nat.reduceLeDiff, Bool.and_true, Bool.true_and, Bool.and_false, Bool.false_and, decide_true, decide_false, vSlF, oNone, oSome, asl, hms, hTup, if_pos lim2, hp', sFor, iRange1, asI1, r4, show (4 : Int).toNat = 4 from rfl, hl']
end V

set_option Elab.async false
open PySem PySem.W PyProof.Rows in
set_option maxRecDepth 100000 in
set_option maxHeartbeats 0 in
theorem PySem.Challenge.cw_forbidmoves_k02_whole_distances_holds : PySem.Challenge.rw_forbidmoves_k02_whole_distances.Holds := by
  w_on; o_law; k_head; (case hw => w_witness2)
  k_fill
  refine Sh.walk_end (l := PySem.Challenge.rw_forbidmoves_k02_whole_distances) (x := "_law_script") (k := 8) rfl rfl ⟨rfl, by decide, by decide⟩ (fun w h Y => PySem.W.kIn_of Y) ?F
  case F =>
    intro w mg fa h KX G hmg
    refine' V.law_all V.law_true KX G hmg (V.tx_mk KX G ?g_Field ?g_Board ?n_abs ?n_all ?n_any ?n_bool ?n_dict ?n_enumerate ?n_int ?n_isinstance ?n_len ?n_list ?n_range ?n_str ?n_sum ?n_tuple ?c_HIGHEST_COST ?c_LONGEST_NAME ?c_MOST_FIELDS ?c_MOST_PRICES ?a0 ?l0 ?c0 ?k0 ?a1 ?l1 ?c1 ?k1 ?a2 ?l2 ?c2 ?k2 ?a3 ?l3 ?c3 ?k3 ?a4 ?l4 ?c4 ?k4 ?a5 ?l5 ?c5 ?k5 ?a6 ?l6 ?c6 ?k6 ?a7 ?l7 ?c7 ?k7 ?a8 ?l8 ?c8 ?k8 ?cl_0_pg ?cl_0_hd ?cl_0_po ?cl_0_sa ?na_0__owner ?na_0__targets ?na_0__goal ?a9 ?l9 ?c9 ?k9 ?i9 ?o9 ?q9 ?a10 ?l10 ?c10 ?u10 ?i10 ?o10 ?q10 ?a11 ?l11 ?c11 ?k11 ?ci_0_pg ?ci_0_hd ?ci_0_po ?ci_0_sa ?ci_0_ha ?ci_0_hn ?ci_0_ht ?ci_0_hm ?a12 ?rr12 ?l12 ?c12 ?k12 ?i12 ?o12 ?a13 ?l13 ?c13 ?k13 ?a14 ?l14 ?c14 ?k14 ?a15 ?l15 ?c15 ?k15 ?a16 ?l16 ?c16 ?k16 ?i16 ?o16 ?a17 ?l17 ?c17 ?k17 ?a18 ?l18 ?c18 ?k18 ?a19 ?l19 ?c19 ?k19 ?cl_1_pg ?cl_1_hd ?cl_1_po ?cl_1_sa ?na_1__fields ?na_1__start ?na_1__prices ?a20 ?l20 ?c20 ?k20 ?i20 ?o20 ?q20 ?a21 ?l21 ?c21 ?k21 ?a22 ?l22 ?c22 ?k22 ?a23 ?l23 ?c23 ?k23 ?a24 ?l24 ?c24 ?k24 ?a25 ?l25 ?c25 ?k25 ?ci_1_pg ?ci_1_hd ?ci_1_po ?ci_1_sa ?ci_1_ha ?ci_1_hn ?ci_1_ht ?ci_1_hm ?a26 ?l26 ?c26 ?k26 ?a27 ?l27 ?c27 ?k27 ?i27 ?o27 ?a28 ?rr28 ?l28 ?c28 ?k28 ?i28 ?o28 ?a29 ?l29 ?c29 ?k29 ?a30 ?rr30 ?l30 ?c30 ?k30 ?i30 ?o30 ?a31 ?l31 ?c31 ?k31 ?i31 ?o31 ?a32 ?l32 ?c32 ?k32 ?a33 ?rr33 ?l33 ?c33 ?k33 ?i33 ?o33 ?a34 ?rr34 ?l34 ?c34 ?k34 ?i34 ?o34 ?a35 ?l35 ?c35 ?k35 ?a36 ?l36 ?c36 ?k36 ?a37 ?l37 ?c37 ?k37 ?a38 ?rr38 ?l38 ?c38 ?k38 ?i38 ?o38 ?a39 ?l39 ?c39 ?k39 ?a40 ?l40 ?c40 ?k40 ?a41 ?l41 ?c41 ?k41) ?zA ?zL ?zC ?zK
    (case g_Field => k_is)
    (case g_Board => k_is)
    (case n_abs => k_is)
    (case n_all => k_is)
    (case n_any => k_is)
    (case n_bool => k_is)
    (case n_dict => k_is)
    (case n_enumerate => k_is)
    (case n_int => k_is)
    (case n_isinstance => k_is)
    (case n_len => k_is)
    (case n_list => k_is)
    (case n_range => k_is)
    (case n_str => k_is)
    (case n_sum => k_is)
    (case n_tuple => k_is)
    (case c_HIGHEST_COST => k_is)
    (case c_LONGEST_NAME => k_is)
    (case c_MOST_FIELDS => k_is)
    (case c_MOST_PRICES => k_is)
    (case a0 => k_is)
    (case l0 => k_is)
    (case c0 => k_is)
    (case k0 => k_is)
    (case a1 => k_is)
    (case l1 => k_is)
    (case c1 => k_is)
    (case k1 => k_is)
    (case a2 => k_is)
    (case l2 => k_is)
    (case c2 => k_is)
    (case k2 => k_is)
    (case a3 => k_is)
    (case l3 => k_is)
    (case c3 => k_is)
    (case k3 => k_is)
    (case a4 => k_is)
    (case l4 => k_is)
    (case c4 => k_is)
    (case k4 => k_is)
    (case a5 => k_is)
    (case l5 => k_is)
    (case c5 => k_is)
    (case k5 => k_is)
    (case a6 => k_is)
    (case l6 => k_is)
    (case c6 => k_is)
    (case k6 => k_is)
    (case a7 => k_is)
    (case l7 => k_is)
    (case c7 => k_is)
    (case k7 => k_is)
    (case a8 => k_is)
    (case l8 => k_is)
    (case c8 => k_is)
    (case k8 => k_is)
    (case cl_0_pg => k_is)
    (case cl_0_hd => k_is)
    (case cl_0_po => k_is)
    (case cl_0_sa => k_is)
    (case na_0__owner => k_is)
    (case na_0__targets => k_is)
    (case na_0__goal => k_is)
    (case a9 => k_is)
    (case l9 => k_is)
    (case c9 => k_is)
    (case k9 => k_is)
    (case i9 => k_is)
    (case o9 => k_is)
    (case q9 => k_is)
    (case a10 => k_is)
    (case l10 => k_is)
    (case c10 => k_is)
    (case u10 => k_is)
    (case i10 => k_is)
    (case o10 => k_is)
    (case q10 => k_is)
    (case a11 => k_is)
    (case l11 => k_is)
    (case c11 => k_is)
    (case k11 => k_is)
    (case ci_0_pg => k_is)
    (case ci_0_hd => k_is)
    (case ci_0_po => k_is)
    (case ci_0_sa => k_is)
    (case ci_0_ha => k_is)
    (case ci_0_hn => k_is)
    (case ci_0_ht => k_is)
    (case ci_0_hm => k_is)
    (case a12 => k_is)
    (case rr12 => k_is)
    (case l12 => k_is)
    (case c12 => k_is)
    (case k12 => k_is)
    (case i12 => k_is)
    (case o12 => k_is)
    (case a13 => k_is)
    (case l13 => k_is)
    (case c13 => k_is)
    (case k13 => k_is)
    (case a14 => k_is)
    (case l14 => k_is)
    (case c14 => k_is)
    (case k14 => k_is)
    (case a15 => k_is)
    (case l15 => k_is)
    (case c15 => k_is)
    (case k15 => k_is)
    (case a16 => k_is)
    (case l16 => k_is)
    (case c16 => k_is)
    (case k16 => k_is)
    (case i16 => k_is)
    (case o16 => k_is)
    (case a17 => k_is)
    (case l17 => k_is)
    (case c17 => k_is)
    (case k17 => k_is)
    (case a18 => k_is)
    (case l18 => k_is)
    (case c18 => k_is)
    (case k18 => k_is)
    (case a19 => k_is)
    (case l19 => k_is)
    (case c19 => k_is)
    (case k19 => k_is)
    (case cl_1_pg => k_is)
    (case cl_1_hd => k_is)
    (case cl_1_po => k_is)
    (case cl_1_sa => k_is)
    (case na_1__fields => k_is)
    (case na_1__start => k_is)
    (case na_1__prices => k_is)
    (case a20 => k_is)
    (case l20 => k_is)
    (case c20 => k_is)
    (case k20 => k_is)
    (case i20 => k_is)
    (case o20 => k_is)
    (case q20 => k_is)
    (case a21 => k_is)
    (case l21 => k_is)
    (case c21 => k_is)
    (case k21 => k_is)
    (case a22 => k_is)
    (case l22 => k_is)
    (case c22 => k_is)
    (case k22 => k_is)
    (case a23 => k_is)
    (case l23 => k_is)
    (case c23 => k_is)
    (case k23 => k_is)
    (case a24 => k_is)
    (case l24 => k_is)
    (case c24 => k_is)
    (case k24 => k_is)
    (case a25 => k_is)
    (case l25 => k_is)
    (case c25 => k_is)
    (case k25 => k_is)
    (case ci_1_pg => k_is)
    (case ci_1_hd => k_is)
    (case ci_1_po => k_is)
    (case ci_1_sa => k_is)
    (case ci_1_ha => k_is)
    (case ci_1_hn => k_is)
    (case ci_1_ht => k_is)
    (case ci_1_hm => k_is)
    (case a26 => k_is)
    (case l26 => k_is)
    (case c26 => k_is)
    (case k26 => k_is)
    (case a27 => k_is)
    (case l27 => k_is)
    (case c27 => k_is)
    (case k27 => k_is)
    (case i27 => k_is)
    (case o27 => k_is)
    (case a28 => k_is)
    (case rr28 => k_is)
    (case l28 => k_is)
    (case c28 => k_is)
    (case k28 => k_is)
    (case i28 => k_is)
    (case o28 => k_is)
    (case a29 => k_is)
    (case l29 => k_is)
    (case c29 => k_is)
    (case k29 => k_is)
    (case a30 => k_is)
    (case rr30 => k_is)
    (case l30 => k_is)
    (case c30 => k_is)
    (case k30 => k_is)
    (case i30 => k_is)
    (case o30 => k_is)
    (case a31 => k_is)
    (case l31 => k_is)
    (case c31 => k_is)
    (case k31 => k_is)
    (case i31 => k_is)
    (case o31 => k_is)
    (case a32 => k_is)
    (case l32 => k_is)
    (case c32 => k_is)
    (case k32 => k_is)
    (case a33 => k_is)
    (case rr33 => k_is)
    (case l33 => k_is)
    (case c33 => k_is)
    (case k33 => k_is)
    (case i33 => k_is)
    (case o33 => k_is)
    (case a34 => k_is)
    (case rr34 => k_is)
    (case l34 => k_is)
    (case c34 => k_is)
    (case k34 => k_is)
    (case i34 => k_is)
    (case o34 => k_is)
    (case a35 => k_is)
    (case l35 => k_is)
    (case c35 => k_is)
    (case k35 => k_is)
    (case a36 => k_is)
    (case l36 => k_is)
    (case c36 => k_is)
    (case k36 => k_is)
    (case a37 => k_is)
    (case l37 => k_is)
    (case c37 => k_is)
    (case k37 => k_is)
    (case a38 => k_is)
    (case rr38 => k_is)
    (case l38 => k_is)
    (case c38 => k_is)
    (case k38 => k_is)
    (case i38 => k_is)
    (case o38 => k_is)
    (case a39 => k_is)
    (case l39 => k_is)
    (case c39 => k_is)
    (case k39 => k_is)
    (case a40 => k_is)
    (case l40 => k_is)
    (case c40 => k_is)
    (case k40 => k_is)
    (case a41 => k_is)
    (case l41 => k_is)
    (case c41 => k_is)
    (case k41 => k_is)
    (case zA => k_is)
    (case zL => k_is)
    (case zC => k_is)
    (case zK => k_is)

