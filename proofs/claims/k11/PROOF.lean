import PyProof.Rows.All
import Wide.All
import OpenK.AllK
import Wide.FinOn
import HandS.ForMost
import HandS.OwnEq
import HandS.IsInst
import HandS.Codes
import HandS.Wide
import HandS.Replace
import HandS.NoneIn
import HandS.Flow
import HandS.Style
import KE.GoesZip
import KE.GoesMore
import KE.GoesEnum
import HandS.Walk
import HandS.StrMore
import KE.KDictZip
import HandS.DictComp
import HandS.Strs
import HandS.CallLocal
import HandS.NestedK
import HandS.FStr
import HandS.Star
import KE.KCallOwn
import HandS.EndTab
import HandS.RaiseMore
import PySem.Challenge.RW_allrows_k11_rows_read
set_option Elab.async false
set_option linter.all false
set_option maxRecDepth 100000
namespace LX
open PySem PySem.Spec PyProof.Rows L2 C8 SX
section
variable {X : Cx}
theorem call_list_str (hc : X.calm = true) : CallR X (.type "list") (fun (xs : List V) (H : Hp) (Q : VK) => ∃ l : List Nat, xs = [V.str (S l)] ∧ l.length ≤ sizeLine ∧ ∀ p, H p = none → Q (.ref p) (upd H p (.lst (l.map fun c => V.str (S [c]))))) := by
  intro pins s σ H xs us Q I r h
  obtain ⟨l, rfl, hl, q⟩ := h
  obtain ⟨u, rfl, ru⟩ := vals1 r
  obtain ⟨t, rfl⟩ := ru
  refine PySem.call_list_str (I.ok.hd hc) (S l) t (fun h' tk acc' c' hk hS hacc => ?_) (by simpa [S] using hl)
  have hv : Vals (l.map fun c => V.str (S [c])) acc'.toList := by
    obtain ⟨hsz, hit⟩ := hacc
    have hsz' : acc'.toList.length = l.length := by simpa using hsz
    have gen : ∀ (m : List Nat) (as : List Value), as.length = m.length → (∀ (j : Nat) (v : Value), as[j]? = some v → ∃ (c : Nat) (u : Tok), m[j]? = some c ∧ v = Value.str ⟨#[c]⟩ u) → Vals (m.map fun c => V.str (S [c])) as := by
      intro m
      induction m with
      | nil => intro as ha _; cases as with
        | nil => exact .nil
        | cons a as => cases ha
      | cons c m ih => intro as ha hh; cases as with
        | nil => cases ha
        | cons a as =>
          obtain ⟨c', u, e1, e2⟩ := hh 0 a rfl
          have : c = c' := Option.some.inj e1
          subst this
          exact .cons ⟨u, e2⟩ (ih as (Nat.succ.inj ha) fun j v e => hh (j + 1) v e)
    refine gen l acc'.toList hsz' fun j v e => ?_
    obtain ⟨c, u, e1, e2⟩ := hit j v (by simpa using e)
    exact ⟨c, u, by simpa [S] using e1, e2⟩
  refine ⟨.ref _, _, I.laid (t' := tk) (o := .lst (l.map fun c => V.str (S [c]))) hk (Nat.le_refl _) ⟨by simpa using hl, acc'.toList, c', hv, by simpa using hS⟩, rfl, q _ (I.hok.fresh (Nat.le_refl _))⟩
theorem op_mul_si : OpR X (binaryOp .Mult) (fun x y H Q => ∃ (z : Str) (k : Int), x = .str z ∧ y = .int k ∧ (k = 0 ∨ k = 1) ∧ Q (.str (if k = 0 then S [] else z)) H) := by
  intro pins s σ H x y v u Q I rx ry h
  obtain ⟨z, k, rfl, rfl, hk, q⟩ := h
  obtain ⟨t, rfl⟩ := rx
  obtain ⟨t', rfl⟩ := ry
  rcases hk with rfl | rfl
  · exact PySem.P.mul_str_none (by decide) (by decide) ⟨.str (S []), H, I.tok _, ⟨_, rfl⟩, q⟩
  · refine PySem.P.mul_str (by decide) (fun _ h => by simp at h) (fun _ h => by simp at h) ?_
    rw [if_neg (by decide), if_pos (by simp)]
    exact ⟨.str z, H, I, ⟨t, rfl⟩, q⟩
def tRevS (te ts : TE) : TE := fun σ H Q => te σ H fun x H1 => ts σ H1 fun y H2 => ∃ i, y = .int i ∧ (some i = some (-1) ∧ ∃ l : List Nat, x = .str (S l) ∧ l.length ≤ sizeLine ∧ Q (.str (S l.reverse)) H2)
theorem rev_indices (z : Str) : (Builtin.Str.strSliceIndices none none (-1) z.length).filterMap (z.cps[·]?) = z.cps.toList.reverse := by
  have e : Builtin.Str.strSliceIndices none none (-1) z.length = (List.range z.length).reverse := by
    show sliceRange ((z.length : Int) - 1) (-1) (-1) = _
    rw [PySem.W.krv_sliceRange]
    exact PySem.W.krv_range _
  rw [e, List.filterMap_reverse]
  exact congrArg List.reverse (PySem.W.krv_all z.cps)
theorem pe_revS {e st : Expr} {te ts : TE} {p3 pos : Pos} (he : PE X e te) (hs : PE X st ts) : PE X (.Subscript e (.Slice none none (some st) p3) pos) (tRevS te ts) := by
  refine ⟨fun pins s σ H Q I h => ?_⟩
  refine Subscript_ (thn (he.run pins s σ H _ I h) fun v s1 ⟨x, H1, I1, r1, q1⟩ => ?_)
  have hst : PO X (some st) (tPart ts) := po_some hs
  refine wpAny_Slice (thn (po_none.run pins s1 σ H1 (fun o H2 => o = none ∧ H2 = H1) I1 ⟨rfl, rfl⟩) fun vl s2 ⟨l, H2, I2, pl, el, e2⟩ => ?_)
  subst el e2
  refine thn (po_none.run pins s2 σ H2 (fun o H3 => o = none ∧ H3 = H2) I2 ⟨rfl, rfl⟩) fun vu s3 ⟨u, H3, I3, pu, eu, e3⟩ => ?_
  subst eu e3
  refine thn (hst.run pins s3 σ H3 (fun o H4 => o = some (-1) ∧ ∃ l : List Nat, x = .str (S l) ∧ l.length ≤ sizeLine ∧ Q (.str (S l.reverse)) H4) I3 q1) fun vs s4 ⟨o, H4, I4, ps, eo, l, ex, hl, q⟩ => ?_
  subst eo ex
  obtain ⟨t, rfl⟩ := r1
  have I5 : Inv X pins σ H4 { s4 with heap := s4.heap.push { cls := .type "slice", data := .fields #[vl, vu, vs] } } := I4.kept (t' := s4.toks) fun b ob q => Heap.get?_push_of_some _ q
  show wpAny (model X.prog X.w) X.A (subscriptTail e (.Slice none none (some st) p3) (.str (S l) t) (.ref s4.heap.objs.size)) (EP X pins σ Q) X.xe { s4 with heap := s4.heap.push { cls := .type "slice", data := .fields #[vl, vu, vs] } }
  obtain ⟨l', el, el2⟩ := IsPart.raw pl
  obtain ⟨u', eu, eu2⟩ := IsPart.raw pu
  obtain ⟨s', es, es2⟩ := IsPart.raw ps
  refine tail_any (ops := [.ref s4.heap.objs.size, .str (S l) t]) (typeIs_str _ _ _) F.slot_str_getitem.lookup ?_ (by with_unfolding_all rfl)
  refine wpAny_getItem_str_slice (l := l') (u := u') (st := s') ?_ (by rw [es2]; rfl) ?_
  · rw [el, eu, es]
    exact Heap.IsSliceOf.new ..
  · unfold sliceMade slicePicked
    rw [el2, eu2, es2]
    show Made.post (if ((-1 : Int) == 1 && (Builtin.Str.strSliceIndices none none (-1) (S l).length).length == (S l).length) = true then Made.val (.str (S l) t)
      else Made.str ⟨((Builtin.Str.strSliceIndices none none (-1) (S l).length).filterMap ((S l).cps[·]?)).toArray⟩) (EP X pins σ Q) _
    rw [if_neg (by simp), rev_indices]
    exact ⟨by simpa [Str.length] using hl, .str _, H4, I5.tok _, ⟨_, rfl⟩, q⟩
end
end LX
namespace LX
open PySem PySem.Spec PyProof.Rows L2 C8 SX
inductive Sr where
  | txt (x : Str) | lst (a : Addr) | tup (a : Addr)
def Sr.fp : Sr → List Addr
  | .txt _ => [] | .lst a => [a] | .tup a => [a]
def Sr.has (K : PySem.W.Frag) : Sr → Nat → Hp → Prop
  | .txt x, i, _ => i < x.cps.size
  | .lst a, i, H => ∃ xs, SqL K H a xs ∧ i < xs.length
  | .tup a, i, H => ∃ xs, SqT K H a xs ∧ i < xs.length
def Sr.val (K : PySem.W.Frag) : Sr → Nat → Hp → V → Prop
  | .txt x, i, _, v => ∃ c, x.cps[i]? = some c ∧ v = .str ⟨#[c]⟩
  | .lst a, i, H, v => ∀ xs, SqL K H a xs → xs[i]? = some v
  | .tup a, i, H, v => ∀ xs, SqT K H a xs → xs[i]? = some v
def Sr.upto (K : PySem.W.Frag) : Sr → Nat → Hp → Prop
  | .txt x, i, _ => i ≤ x.cps.size
  | .lst a, i, H => ∃ xs, SqL K H a xs ∧ i ≤ xs.length
  | .tup a, i, H => ∃ xs, SqT K H a xs ∧ i ≤ xs.length
def Sr.ends (K : PySem.W.Frag) : Sr → Nat → Hp → Prop
  | .txt x, i, _ => i = x.cps.size
  | .lst a, i, H => ∃ xs, SqL K H a xs ∧ i = xs.length
  | .tup a, i, H => ∃ xs, SqT K H a xs ∧ i = xs.length
def Sr.tn : Sr → Addr → Nat → Heap → Prop
  | .txt x, it, i, h => ∃ t, h.IsStrIter it (strIterType x) x t i
  | .lst a, it, i, h => h.IsListIter it a i
  | .tup a, it, i, h => h.IsTupleIter it a i
theorem Sr.tn_obj : ∀ {S : Sr} {it : Addr} {i : Nat} {h : Heap}, S.tn it i h → ∃ o, h.get? it = some o ∧ ∀ v, o.data ≠ .cell v
  | .txt _, _, _, _, ⟨_, o, e, _, d⟩ => ⟨o, e, fun v q => by rw [d] at q; cases q⟩
  | .lst _, _, _, _, h => let ⟨o, e, _, d⟩ := h; ⟨o, e, fun v q => by rw [d] at q; cases q⟩
  | .tup _, _, _, _, ⟨o, e, _, d⟩ => ⟨o, e, fun v q => by rw [d] at q; cases q⟩
theorem Sr.tn_keep : ∀ {S : Sr} {it : Addr} {i : Nat} {h h' : Heap}, S.tn it i h → (∀ o, h.get? it = some o → h'.get? it = some o) → S.tn it i h'
  | .txt _, _, _, _, _, ⟨t, o, e, r⟩, k => ⟨t, o, k o e, r⟩
  | .lst _, _, _, _, _, h, k => h.at k
  | .tup _, _, _, _, _, h, k => h.at k
section
variable {X : Cx} {pins : List (Addr × Obj)} {σ : L2.St} {H : Hp} {s : Shared}
structure DrawsAt (X : Cx) (S : Sr) (H : Hp) (s : Shared) (it : Addr) (i : Nat) (n : Nat) : Prop where
  ex : ∃ (Pp : Nat → Value → Prop) (St : Nat → Heap → Prop), (∀ A : Around, A.handled = none → Draws X.prog X.w A it (it :: S.fp) n Pp St) ∧ St i s.heap ∧
    (∀ u, Pp i u → ∃ v, S.val X.K i H v ∧ RelV v u) ∧ ∀ j h', St j h' → S.tn it j h'
theorem Sr.draws (S : Sr) {it : Addr} {i : Nat} (I : Inv X pins σ H s) (hit : ∀ a ∈ S.fp, a ≠ it) (st : S.tn it i s.heap) (hu : S.upto X.K i H) : ∃ n, DrawsAt X S H s it i n ∧ i ≤ n ∧ (S.has X.K i H → i < n) ∧ (S.ends X.K i H → i = n) := by
  cases S with
  | txt x =>
    obtain ⟨t, st⟩ := st
    refine ⟨x.cps.size, ⟨_, _, fun A hh => Draws.text hh it x t, st, fun u ⟨c, u', e, eu⟩ => ?_, fun j h' q => ⟨t, q⟩⟩, hu, fun h => h, fun h => h⟩
    exact ⟨.str ⟨#[c]⟩, ⟨c, e, rfl⟩, ⟨u', eu⟩⟩
  | lst a =>
    obtain ⟨xs, hx, hu⟩ := hu
    obtain ⟨its, rv, p, _⟩ := I.list hx
    have hl := rv.length
    refine ⟨its.toArray.size, ⟨_, _, fun A hh => Draws.list hh it a (hit a (List.mem_singleton.mpr rfl)) its.toArray, ⟨st, p.isList⟩, fun u hq => ?_, fun j h' q => q.1⟩, by simp; omega, fun ⟨ys, hy, h⟩ => ?_, fun ⟨ys, hy, h⟩ => ?_⟩
    · have hq' : its[i]? = some u := by simpa using hq
      have hlt : i < xs.length := by rw [hl]; exact (List.getElem?_eq_some_iff.mp hq').1
      obtain ⟨u', e, r⟩ := rv.get (List.getElem?_eq_getElem hlt)
      rw [hq'] at e
      rw [Option.some.inj e]
      exact ⟨xs[i], fun zs hz => by rw [I.list_inj hz hx]; exact List.getElem?_eq_getElem hlt, r⟩
    · rw [I.list_inj hy hx] at h; simp; omega
    · rw [I.list_inj hy hx] at h; simp; omega
  | tup a =>
    obtain ⟨xs, hx, hu⟩ := hu
    obtain ⟨its, rv, p, _⟩ := I.tuple hx
    have hl := rv.length
    refine ⟨its.toArray.size, ⟨_, _, fun A hh => Draws.tuple hh it a (hit a (List.mem_singleton.mpr rfl)) its.toArray, ⟨st, p⟩, fun u hq => ?_, fun j h' q => q.1⟩, by simp; omega, fun ⟨ys, hy, h⟩ => ?_, fun ⟨ys, hy, h⟩ => ?_⟩
    · have hq' : its[i]? = some u := by simpa using hq
      have hlt : i < xs.length := by rw [hl]; exact (List.getElem?_eq_some_iff.mp hq').1
      obtain ⟨u', e, r⟩ := rv.get (List.getElem?_eq_getElem hlt)
      rw [hq'] at e
      rw [Option.some.inj e]
      exact ⟨xs[i], fun zs hz => by rw [I.tuple_inj hz hx]; exact List.getElem?_eq_getElem hlt, r⟩
    · rw [I.tuple_inj hy hx] at h; simp; omega
    · rw [I.tuple_inj hy hx] at h; simp; omega
end
def ItzX (K : PySem.W.Frag) (S1 S2 : Sr) : It :=
  ⟨fun i H => S1.has K i H ∧ S2.has K i H,
    fun i H v H' => ∃ T x y, v = .ref T ∧ H T = none ∧ H' = upd H T (.tup [x, y]) ∧ S1.val K i H x ∧ S2.val K i H y,
    fun i H => S1.upto K i H ∧ S2.upto K i H ∧ (S1.ends K i H ∨ S2.ends K i H)⟩
theorem Sr.has_upto {K : PySem.W.Frag} : ∀ {S : Sr} {i : Nat} {H : Hp}, S.has K i H → S.upto K i H
  | .txt _, _, _, h => Nat.le_of_lt h
  | .lst _, _, _, ⟨xs, hx, h⟩ => ⟨xs, hx, Nat.le_of_lt h⟩
  | .tup _, _, _, ⟨xs, hx, h⟩ => ⟨xs, hx, Nat.le_of_lt h⟩
theorem turn_zipX {P : Program} {w : World} {K : PySem.W.Frag} {elts : List Expr} {kk : Nat} {tpos : Pos} {z TI TO i1 i2 : Addr} (S1 S2 : Sr) (D : ZipSep2 z TI TO i1 i2 (i1 :: S1.fp) (i2 :: S2.fp)) (n1 : ∀ a ∈ S1.fp, a ≠ i1) (n2 : ∀ a ∈ S2.fp, a ≠ i2) :
    Turn P w K (.Tuple elts kk tpos) (ItzX K S1 S2) [z, TI, TO, i1, i2] z (fun i h => IsZip h z TI TO .none ∧ IsTupOf2 h TI (.ref i1) (.ref i2) ∧ (∃ x y, IsTupOf2 h TO x y) ∧ S1.tn i1 i h ∧ S2.tn i2 i h) where
  mem := by simp
  obj := fun i h st c hc => by
    obtain ⟨hz, hTI, ⟨x, y, hTO⟩, h1, h2⟩ := st
    have e' : c = z ∨ c = TI ∨ c = TO ∨ c = i1 ∨ c = i2 := by simpa using hc
    rcases e' with q | q | q | q | q
    · rw [q]; exact ⟨_, hz, fun v q => nomatch q⟩
    · rw [q]; exact ⟨_, hTI, fun v q => nomatch q⟩
    · rw [q]; exact ⟨_, hTO, fun v q => nomatch q⟩
    · rw [q]; exact Sr.tn_obj h1
    · rw [q]; exact Sr.tn_obj h2
  keep := fun i h h' st k => by
    obtain ⟨hz, hTI, ⟨x, y, hTO⟩, h1, h2⟩ := st
    exact ⟨k z (by simp) _ hz, k TI (by simp) _ hTI, ⟨x, y, k TO (by simp) _ hTO⟩, Sr.tn_keep h1 fun o q => k i1 (by simp) o q, Sr.tn_keep h2 fun o q => k i2 (by simp) o q⟩
  item := by
    intro X hP hw hK hc i pins s σ H E I hf st hg
    subst hP hw hK
    obtain ⟨hz, hTI, ⟨x0, y0, hTO⟩, h1, h2⟩ := st
    obtain ⟨g1, g2⟩ := hg
    obtain ⟨m1, ⟨P1, St1, D1, st1, v1, t1⟩, _, lt1, _⟩ := S1.draws I n1 h1 (Sr.has_upto g1)
    obtain ⟨m2, ⟨P2, St2, D2, st2, v2, t2⟩, _, lt2, _⟩ := S2.draws I n2 h2 (Sr.has_upto g2)
    have hzl : z < s.heap.objs.size := Heap.lt_size hz
    refine wpAny_pyNext_zipD2_item D (D1 _ (I.ok.hd hc)) (D2 _ (I.ok.hd hc)) hz hTI hTO st1 st2 (lt1 g1) (lt2 g2) fun u1 u2 h' tk p1 p2 z' TO' st1' st2' hT hsz hk => ?_
    obtain ⟨x, hx, rx⟩ := v1 u1 p1
    obtain ⟨y, hy, ry⟩ := v2 u2 p2
    refine ⟨_, rfl, wpAny_letOwnedTupleGo_zip (s := { s with heap := h', toks := tk }) z' fun h'' z'' sb => ?_⟩
    have hT2 : h''.get? s.heap.objs.size = some { cls := .type "tuple", data := .seq #[u1, u2] } := (sb.2 _ (Nat.ne_of_gt hzl)).trans hT
    have new : ObjOk X.prog X.w (upd H s.heap.objs.size (.tup [x, y])) h'' s.heap.objs.size (.tup [x, y]) :=
      ⟨by show 2 ≤ sizeLine; decide, [u1, u2], .cons rx (.cons ry .nil), ⟨_, hT2, rfl, _, rfl⟩⟩
    have I1 : Inv X pins σ (upd H s.heap.objs.size (.tup [x, y])) { s with heap := h'', toks := tk } :=
      I.turnedNew (t' := tk) (ch := [z, TI, TO, i1, i2]) (fun c o hb q => (sb.2 c (fun q' => hb (by simp [q']))).trans (hk c o (fun q' => hb (by simp [q'])) (fun q' => hb (by simp [q'])) (fun q' => hb (by simp [q'])) (fun q' => hb (by simp [q'])) q)) hf (Nat.le_refl _) new
    refine ⟨.ref s.heap.objs.size, _, I1, rfl, ⟨_, x, y, rfl, I.hok.fresh (Nat.le_refl _), rfl, hx, hy⟩, ⟨z'', ?_, ⟨u1, u2, ?_⟩, ?_, ?_⟩, fun c hcm => ?_⟩
    · exact (sb.2 _ D.TIz).trans (hk _ _ D.TIz D.TITO D.TIi1 D.TIi2 hTI)
    · exact (sb.2 _ D.TOz).trans TO'
    · exact Sr.tn_keep (t1 _ _ st1') fun o q => (sb.2 _ D.zi1.symm).trans q
    · exact Sr.tn_keep (t2 _ _ st2') fun o q => (sb.2 _ D.zi2.symm).trans q
    · have hlt : c < s.heap.objs.size := by
        have e' : c = z ∨ c = TI ∨ c = TO ∨ c = i1 ∨ c = i2 := by simpa using hcm
        rcases e' with q | q | q | q | q
        · rw [q]; exact hzl
        · rw [q]; exact Heap.lt_size hTI
        · rw [q]; exact Heap.lt_size hTO
        · rw [q]; obtain ⟨_, e1, _⟩ := Sr.tn_obj h1; exact Heap.lt_size e1
        · rw [q]; obtain ⟨_, e2, _⟩ := Sr.tn_obj h2; exact Heap.lt_size e2
      rw [upd_ne (Nat.ne_of_lt hlt)]
      exact (hf c hcm).1
  done := by
    intro X hP hw hK hc i pins s σ H E I hf st hg
    subst hP hw hK
    obtain ⟨hz, hTI, ⟨x0, y0, hTO⟩, h1, h2⟩ := st
    obtain ⟨g1, g2, ge⟩ := hg
    obtain ⟨m1, ⟨P1, St1, D1, st1, v1, t1⟩, le1, _, eq1⟩ := S1.draws I n1 h1 g1
    obtain ⟨m2, ⟨P2, St2, D2, st2, v2, t2⟩, le2, _, eq2⟩ := S2.draws I n2 h2 g2
    exact wpAny_pyNext_zipD2_end D (D1 _ (I.ok.hd hc)) (D2 _ (I.ok.hd hc)) hz hTI hTO st1 st2 le1 le2 (ge.elim (fun q => .inl (eq1 q)) fun q => .inr (eq2 q)) fun h' tk hk => ⟨rfl, I.turnedL (t' := tk) (ch := [z, TI, TO, i1, i2]) (fun c o hb q =>
      hk c o (fun q' => hb (by simp [q'])) (fun q' => hb (by simp [q'])) (fun q' => hb (by simp [q'])) (fun q' => hb (by simp [q'])) q) hf⟩
  self := fun A i s Q E st h => wpAny_pyIter_zip st.1 h
def Sr.of : V → Sr → Prop
  | .str x, .txt y => x = y
  | .ref a, .lst b => a = b
  | .ref a, .tup b => a = b
  | _, _ => False
def Sr.there (K : PySem.W.Frag) (H : Hp) : Sr → Prop
  | .txt _ => True
  | .lst a => ∃ xs, SqL K H a xs
  | .tup a => ∃ xs, SqT K H a xs
theorem Sr.begins {X : Cx} {pins : List (Addr × Obj)} {σ : L2.St} {H : Hp} {s : Shared} (I : Inv X pins σ H s) {v : V} {u : Value} (r : RelV v u) : ∀ {S : Sr}, S.of v → S.there X.K H → ∃ (o : Obj) (HH : Heap → Prop), Begins u o HH ∧ HH s.heap ∧ (∀ a ∈ S.fp, a < s.heap.objs.size) ∧ ∀ (h : Heap) (it : Addr), h.get? it = some o → S.tn it 0 h
  | .txt y, e, _ => by
    cases v with
    | str x =>
      have e' : x = y := e
      subst e'
      obtain ⟨t, rfl⟩ := r
      exact ⟨_, _, begins_text x t, trivial, (fun _ h => nomatch h), fun h it q => ⟨t, _, q, rfl, rfl⟩⟩
    | _ => exact e.elim
  | .lst b, e, ⟨xs, hx⟩ => by
    cases v with
    | ref a =>
      have e' : a = b := e
      subst e'
      cases r
      obtain ⟨its, rv, p, _⟩ := I.list hx
      refine ⟨_, _, begins_list a its.toArray, p.isList, fun c h => ?_, fun h it q => ⟨_, q, rfl, rfl⟩⟩
      rw [List.mem_singleton.mp h]; exact p.lt
    | _ => exact e.elim
  | .tup b, e, ⟨xs, hx⟩ => by
    cases v with
    | ref a =>
      have e' : a = b := e
      subst e'
      cases r
      obtain ⟨its, rv, p, _⟩ := I.tuple hx
      refine ⟨_, _, begins_tuple a its.toArray, p, fun c h => ?_, fun h it q => ⟨_, q, rfl, rfl⟩⟩
      rw [List.mem_singleton.mp h]; exact p.lt
    | _ => exact e.elim
def iZipX (K : PySem.W.Frag) (ta : TA) : TI := fun σ H R => ta σ H fun vs H1 => ∃ (x y : V) (S1 S2 : Sr), vs = [x, y] ∧ S1.of x ∧ S2.of y ∧ S1.there K H1 ∧ S2.there K H1 ∧ R (ItzX K S1 S2) H1
theorem pi_zipX {X : Cx} {e e2 : Expr} {ta : TA} {p pos tpos : Pos} {elts : List Expr} {kk : Nat} (hg : Gl X "zip") (hm : X.mg "zip" = none) (ha : PA X [e, e2] ta)
    (hs : starEach [e, e2] X.env = (false, eval e X.env) :: starEach [e2] X.env := by rfl) (hpl : (backTo pos (starEach [e2] X.env)).any (·.1) = false := by rfl) :
    PI X (.Tuple elts kk tpos) (.Call (.Name "zip" p) [e, e2] [] pos) (iZipX X.K ta) := by
  refine ⟨fun pins s σ H R I h => ?_⟩
  refine Call_ (ld_blt I hg hm PyProof.Rows.boot_zip (PyProof.Rows.callWith_type1 (thn (ha.run pos pins s σ H _ I h) fun us s1 ⟨vs, H1, I1, r1, q1⟩ => ?_) hs hpl))
  obtain ⟨x, y, S1, S2, ex, e1, e2, th1, th2, q⟩ := q1
  subst ex
  obtain ⟨u, u', rfl, r, r'⟩ := vals2 r1
  obtain ⟨o1, HH1, B1, b1, f1, t1⟩ := Sr.begins I1 r e1 th1
  obtain ⟨o2, HH2, B2, b2, f2, t2⟩ := Sr.begins I1 r' e2 th2
  have fresh5 : ∀ c, c ∈ [s1.heap.objs.size + 4, s1.heap.objs.size + 2, s1.heap.objs.size + 3, s1.heap.objs.size, s1.heap.objs.size + 1] → FpOk X pins H1 c := fun c hcm => by
    have e' : c = s1.heap.objs.size + 4 ∨ c = s1.heap.objs.size + 2 ∨ c = s1.heap.objs.size + 3 ∨ c = s1.heap.objs.size ∨ c = s1.heap.objs.size + 1 := by simpa using hcm
    have hle : s1.heap.objs.size ≤ c := by
      rcases e' with z | z | z | z | z
      · rw [z]; exact Nat.le_add_right _ _
      · rw [z]; exact Nat.le_add_right _ _
      · rw [z]; exact Nat.le_add_right _ _
      · rw [z]; exact Nat.le_refl _
      · rw [z]; exact Nat.le_add_right _ _
    exact I1.fpOk hle (I1.hok.fresh hle)
  refine zip_begins2 B1 B2 b1 b2 fun h' hz hTI hTO h1 h2 hsz hk => wpAny_pyIter_zip hz ?_
  have I2 : Inv X pins σ H1 { s1 with heap := h' } := I1.kept (t' := s1.toks) hk
  exact ⟨s1.heap.objs.size + 4, [s1.heap.objs.size + 4, s1.heap.objs.size + 2, s1.heap.objs.size + 3, s1.heap.objs.size, s1.heap.objs.size + 1], _, _, H1, rfl, I2,
    turn_zipX S1 S2 (PySem.zip_sep2 f1 f2) (fun a ha => Nat.ne_of_lt (f1 a ha)) (fun a ha => Nat.ne_of_lt (Nat.lt_succ_of_lt (f2 a ha))), ⟨hz, hTI, ⟨_, _, hTO⟩, t1 _ _ h1, t2 _ _ h2⟩, fresh5, q⟩
end LX
namespace LX
open PySem PySem.Spec PyProof.Rows L2 C8 SX
section
variable {prog : Program} {w : World} {A : Around} {E : Value → Shared → Prop} {s : Shared} {K : PySem.W.Frag} {x y C L f : Addr} {h₀ : Heap} {m : Str → Option Value} {ox : Obj} {od : Option Obj}
theorem objNe_own (X : K.In s.heap) (I : PySem.W.InstAt s.heap x ox C od) (hs : PySem.W.findIn K (.ref C) "__eq__" = some (some (.ref f))) (hf : PySem.W.isFn K (.ref f) = true) (hu : A.units < cLine) {Q : Fin → Shared → Prop}
    (hcall : wpAny (model prog w) A (call (.ref f) [.ref x, .ref y]) (fun v s' => ∃ b, v = .bool b ∧ Q (.done (.ret (.bool (!b)))) s') E s) :
    wpAny (model prog w) A (Builtin.«object.__ne__» ⟨[.ref x, .ref y], []⟩) Q E s := by
  unfold Builtin.«object.__ne__»
  repeat (first
    | with_reducible refine wpAny_cRoomFor hu ?_
    | (refine wpAny_bind (m := callSpecialIfBound? (.ref x) (Str.ofString "__eq__") [.ref y])
        (PySem.W.ifBound_K X I hs hf (wpAny_mono hcall (fun r s' hr => by
          obtain ⟨b, rfl, hq⟩ := hr
          repeat (first | exact hq | exact wpAny_pure hq | exact wpAny_truthy_bool hq | (refine wpAny_bind (m := truthy (.bool _)) (wpAny_truthy_bool ?_)) | wp_step)) fun _ _ e => e)))
    | wp_step)
theorem ifBound_ne {M : Model} {args : List Value} {Q : Option Value → Shared → Prop} (X : K.In s.heap) (I : PySem.W.InstAt s.heap x ox C od) (hs : PySem.W.findIn K (.ref C) "__ne__" = some (some (.builtin "object.__ne__")))
    (h : wpAny M A (call (.builtin "object.__ne__") (.ref x :: args)) (fun v => Q (some v)) E s) : wpAny M A (callSpecialIfBound? (.ref x) "__ne__" args) Q E s := by
  simp only [callSpecialIfBound?, bindSpecialIfBound?]
  refine wpAny_holding (wpAny_bind (wpAny_bind (wpAny_bind (I.type.here ((PySem.W.looks_findIn X hs).here ?_)))))
  simp only [F.cmp_object.ne.bind]
  refine wpAny_bind (wpAny_askSetting (wpAny_ite ?_))
  have fin : wpAny M A (call (.builtin "object.__ne__") ([.ref x] ++ args) >>= fun v => pure (some v)) Q E s := wpAny_bind (wpAny_mono h (fun v s' h' => wpAny_pure h') fun _ _ h' => h')
  split
  · exact wpAny_bind (wpAny_pure (wpAny_pure fin))
  · exact wpAny_tryCatch (wpAny_bind (wpAny_pure (wpAny_pure fin)))
theorem check_ne {M : Model} {Q : Unit → Shared → Prop} (X : K.In s.heap) (I : PySem.W.InstAt s.heap x ox C od) (hm : PySem.W.mroIn K C (.type "object") = some true) (hq : Q () s) :
    wpAny M A (checkBuiltinCall "object.__ne__" ⟨[.ref x, .ref y], []⟩) Q E s := by
  have L0 := I.type (M := M)
  have L1 := PySem.W.looks_mroIn (M := M) X hm
  simp only [checkBuiltinCall, F.cmpKind_ne, F.cmpSplit_ne]
  have ha := F.cmpArgs_ne (.ref x) (.ref y)
  refine wpAny_bind ?_
  unfold isInstance
  repeat lk
  exact hq
theorem rcNe_own (hu : A.units + 1 < cLine) (FF : Fr h₀ L s.heap m) (X₀ : K.In h₀) (I : PySem.W.InstAt s.heap x ox C od) (hb : PySem.W.Looks (model prog w) s.heap (typeOf (.ref y)) (.ref C))
    (hs : PySem.W.findIn K (.ref C) "__eq__" = some (some (.ref f))) (hf : PySem.W.isFn K (.ref f) = true) (hn : PySem.W.findIn K (.ref C) "__ne__" = some (some (.builtin "object.__ne__"))) (hm : PySem.W.mroIn K C (.type "object") = some true)
    {Q : Value → Shared → Prop} (hcall : wpAny (model prog w) A.in1 (call (.ref f) [.ref x, .ref y]) (fun v s' => ∃ b, v = .bool b ∧ Q (.bool (!b)) s') E s) :
    wpAny (model prog w) A (richCompare .NotEq (.ref x) (.ref y)) Q E s := by
  have X := X₀.keeps FF.keep
  have one : wpAny (model prog w) A (tryCompare (.ref x) (cmpInfo .NotEq).2.1 (.ref y)) (fun r s' => ∃ v, r = some v ∧ Q v s') E s := by
    show wpAny (model prog w) A (tryCompare (.ref x) "__ne__" (.ref y)) (fun r s' => ∃ v, r = some v ∧ Q v s') E s
    unfold tryCompare
    refine wpAny_bind (ifBound_ne X I hn (wpAny_call (codeAny_call_builtin F.cmp_object.ne.plain F.cmpEntry_ne (check_ne X I hm (objNe_own (A := A.in1) X I hs hf (by show A.units + 1 < cLine; exact hu) (wpAny_mono hcall (fun v s' hv => ?_) fun _ _ e => e))))))
    obtain ⟨b, rfl, hq⟩ := hv
    first | exact ⟨b, rfl, wpAny_pure ⟨_, rfl, hq⟩⟩ | exact ⟨b, rfl, wpAny_pure (wpAny_pure ⟨_, rfl, hq⟩)⟩ | exact ⟨b, rfl, ⟨_, rfl, hq⟩⟩
  unfold richCompare
  simp only [oneThing_ref]
  refine wpAny_holding (wpAny_bind (wpAny_cRoomFor (by omega) ?_))
  refine wpAny_bind (I.type.here (wpAny_bind (hb.here ?_)))
  rw [show (Value.ref C != Value.ref C) = false from by simp]
  simp only [Bool.false_eq_true, if_false]
  refine wpAny_bind (wpAny_pure ?_)
  simp only [Bool.false_eq_true, if_false]
  refine wpAny_bind (wpAny_mono one (fun r s' z => ?_) fun _ _ e => e)
  obtain ⟨v, rfl, hq⟩ := z
  first | exact wpAny_pure hq | exact hq
end
section
variable {X : Cx} {k j : Nat} {C : Addr} {sp : Sp}
theorem met_run {mth : Str} {pins : List (Addr × Obj)} {σ : L2.St} {H : Hp} {s : Shared} {A : Around} {a b : Addr} {Q : Value → Shared → Prop} (c : Met X.prog X.w X.K X.mg X.base k C mth sp []) (hr : Room k A) (hfr : A.frames = X.A.frames) (I : Inv X pins σ H s)
    {R : VK} (hsp : sp [.ref a, .ref b] H R C8.E0) (hQ : ∀ v z H' s', Inv X pins σ H' s' → RelV z v → R z H' → Q v s') :
    ∃ f, PySem.W.findIn X.K (.ref C) mth = some (some (.ref f)) ∧ PySem.W.isFn X.K (.ref f) = true ∧ wpAny (model X.prog X.w) A (call (.ref f) [.ref a, .ref b]) Q X.xe s := by
  obtain ⟨f, fd, ps, ds, hc, hm, F, hb, hd⟩ := c.ex
  refine ⟨f, hm.at_, hm.fn, ?_⟩
  have e0 : Env0 X.prog X.w X.K X.mg X.base A X.stack s H := by
    have e := I.env0
    exact ⟨by rw [hfr]; exact e.frames, e.mod, e.bs, e.bsz, e.funs, e.frf, e.hok, e.bare⟩
  have hds : ds = [] := by cases hd; rfl
  subst hds
  have hl := F.len _ _ _ _ hsp
  have r2 : Vals [V.ref a, V.ref b] [Value.ref a, Value.ref b] := .cons rfl (.cons rfl .nil)
  refine wpAny_call (codeAny_mono (F.run A X.stack s H ⟨[.ref a, .ref b], []⟩ [.ref a, .ref b] [.ref a, .ref b] _ C8.E0 hr e0 (by
    have := hb s [.ref a, .ref b] I.kIn (by simpa using hl)
    simpa using this) r2 hsp) fun r s' hq => ?_)
  cases r with
  | error e => exact C8.pass0 (E := C8.E0) pins σ H s e s' I hq
  | ok fl =>
    cases fl with
    | ret w =>
      obtain ⟨z, H', I', rz, q⟩ := I.after hq
      exact hQ w z H' s' I' rz q
    | next => exact False.elim hq
    | brk => exact False.elim hq
    | cont => exact False.elim hq
structure NeC (K : PySem.W.Frag) (C : Addr) : Prop where
  ne : PySem.W.findIn K (.ref C) "__ne__" = some (some (.builtin "object.__ne__"))
  ob : PySem.W.mroIn K C (.type "object") = some true
  sf : PySem.W.selfFirst K C = true
def rEqI (C : Addr) (sp : Sp) : R2 := fun x y H Q => ∃ a b dx dy fs gs, x = .ref a ∧ y = .ref b ∧ H a = some (.ins C dx fs) ∧ H b = some (.ins C dy gs) ∧ sp [.ref a, .ref b] H (fun v H' => ∃ r, v = .bl r ∧ Q (.bl r) H') C8.E0
def rNeI (C : Addr) (sp : Sp) : R2 := fun x y H Q => ∃ a b dx dy fs gs, x = .ref a ∧ y = .ref b ∧ H a = some (.ins C dx fs) ∧ H b = some (.ins C dy gs) ∧ sp [.ref a, .ref b] H (fun v H' => ∃ r, v = .bl r ∧ Q (.bl (!r)) H') C8.E0
def rOpI (C : Addr) (sp : Sp) : R2 := fun x y H Q => ∃ a b dx dy fs gs, x = .ref a ∧ y = .ref b ∧ H a = some (.ins C dx fs) ∧ H b = some (.ins C dy gs) ∧ sp [.ref a, .ref b] H (fun v H' => ∃ p, v = .ref p ∧ Q (.ref p) H') C8.E0
theorem op_eqI (c : Met X.prog X.w X.K X.mg X.base k C "__eq__" sp []) (hr : Room j X.A) (hk : k ≤ j) : OpR X (compareOp .Eq) (rEqI C sp) := by
  intro pins s σ H x y v u Q I rx ry h
  obtain ⟨a, b, dx, dy, fs, gs, rfl, rfl, ha, hb, hsp⟩ := h
  cases rx
  cases ry
  obtain ⟨mA, J, _⟩ := ins_get I.hok ha
  obtain ⟨mB, J', _⟩ := ins_get I.hok hb
  obtain ⟨od, J, _⟩ := J.look
  obtain ⟨od', J', _⟩ := J'.look
  obtain ⟨m, hF⟩ := I.fr
  obtain ⟨f, hs, hf, hw⟩ := met_run (Q := PySem.W.CmpBack (EP X pins σ Q)) c (hr.mono hk) rfl I hsp (fun v z H' s' I' rz q => by
    obtain ⟨r, rfl, q⟩ := q
    cases rz
    exact ⟨.bl r, H', I', rfl, q⟩)
  exact PySem.W.cmp_K (op := .Eq) (tb := .ref C) hr.units0 hF I.ok.mod.kin J J'.type (by simp [PySem.W.notFirst]) hs hf hw
theorem op_neI (n : NeC X.K C) (c : Met X.prog X.w X.K X.mg X.base k C "__eq__" sp []) (hr : Room j X.A) (hk : k + 1 ≤ j) : OpR X (compareOp .NotEq) (rNeI C sp) := by
  intro pins s σ H x y v u Q I rx ry h
  obtain ⟨a, b, dx, dy, fs, gs, rfl, rfl, ha, hb, hsp⟩ := h
  cases rx
  cases ry
  obtain ⟨mA, J, _⟩ := ins_get I.hok ha
  obtain ⟨mB, J', _⟩ := ins_get I.hok hb
  obtain ⟨od, J, _⟩ := J.look
  obtain ⟨od', J', _⟩ := J'.look
  obtain ⟨m, hF⟩ := I.fr
  obtain ⟨f, hs, hf, hw⟩ := met_run (Q := fun v s' => ∃ b, v = .bool b ∧ EP X pins σ Q (.bool (!b)) s') c (hr.mono hk).in1 rfl I hsp (fun v z H' s' I' rz q => by
    obtain ⟨r, rfl, q⟩ := q
    cases rz
    exact ⟨r, rfl, .bl (!r), H', I', rfl, q⟩)
  exact rcNe_own (hu_of hr) hF I.ok.mod.kin J J'.type hs hf n.ne n.ob hw
theorem op_mulI (n : NeC X.K C) (c : Met X.prog X.w X.K X.mg X.base k C "__mul__" sp []) (hr : Room j X.A) (hk : k ≤ j) : OpR X (binaryOp .Mult) (rOpI C sp) := by
  intro pins s σ H x y v u Q I rx ry h
  obtain ⟨a, b, dx, dy, fs, gs, rfl, rfl, ha, hb, hsp⟩ := h
  cases rx
  cases ry
  obtain ⟨mA, J, _⟩ := ins_get I.hok ha
  obtain ⟨mB, J', _⟩ := ins_get I.hok hb
  obtain ⟨od, J, _⟩ := J.look
  obtain ⟨od', J', _⟩ := J'.look
  obtain ⟨m, hF⟩ := I.fr
  obtain ⟨f, hs, hf, hw⟩ := met_run (Q := PySem.W.CmpBack (EP X pins σ Q)) c (hr.mono hk) rfl I hsp (fun v z H' s' I' rz q => by
    obtain ⟨p, rfl, q⟩ := q
    cases rz
    exact ⟨.ref p, H', I', rfl, q⟩)
  exact PySem.W.binop_K (op := .Mult) hF I.ok.mod.kin J J'.type n.sf hs hf hw
theorem op_addI (n : NeC X.K C) (c : Met X.prog X.w X.K X.mg X.base k C "__add__" sp []) (hr : Room j X.A) (hk : k ≤ j) : OpR X (binaryOp .Add) (rOpI C sp) := by
  intro pins s σ H x y v u Q I rx ry h
  obtain ⟨a, b, dx, dy, fs, gs, rfl, rfl, ha, hb, hsp⟩ := h
  cases rx
  cases ry
  obtain ⟨mA, J, _⟩ := ins_get I.hok ha
  obtain ⟨mB, J', _⟩ := ins_get I.hok hb
  obtain ⟨od, J, _⟩ := J.look
  obtain ⟨od', J', _⟩ := J'.look
  obtain ⟨m, hF⟩ := I.fr
  obtain ⟨f, hs, hf, hw⟩ := met_run (Q := PySem.W.CmpBack (EP X pins σ Q)) c (hr.mono hk) rfl I hsp (fun v z H' s' I' rz q => by
    obtain ⟨p, rfl, q⟩ := q
    cases rz
    exact ⟨.ref p, H', I', rfl, q⟩)
  exact PySem.W.binop_K (op := .Add) hF I.ok.mod.kin J J'.type n.sf hs hf hw
end
end LX
namespace LX
open PySem PySem.Spec PyProof.Rows L2 C8 SX
section
variable {X : Cx} {K : PySem.W.Frag} {H : Hp}
def txs (xs : List (List Nat)) : List V := xs.map fun l => V.str (S l)
theorem txs_len (xs : List (List Nat)) : (txs xs).length = xs.length := List.length_map ..
theorem dp_strs : ∀ xs : List (List Nat), DpAll K H (txs xs) (xs.map fun l => PyData.str (S l))
  | [] => .nil
  | x :: xs => .cons (.str _) (dp_strs xs)
theorem eqv_strs : ∀ xs ys : List (List Nat), PyData.eqvAll (xs.map fun l => PyData.str (S l)) (ys.map fun l => PyData.str (S l)) = decide (xs = ys)
  | [], [] => rfl
  | [], _ :: _ => rfl
  | _ :: _, [] => rfl
  | x :: xs, y :: ys => by
    show (S x == S y && PyData.eqvAll (xs.map fun l => PyData.str (S l)) (ys.map fun l => PyData.str (S l))) = _
    rw [S_beq_eq, eqv_strs xs ys, ← Bool.decide_and]
    exact decide_eq_decide.mpr (by rw [List.cons.injEq])
def Small (xs : List (List Nat)) : Prop := ∀ l ∈ xs, ∀ c ∈ l, c < 1114112
theorem lay_strs : ∀ {xs : List (List Nat)}, Small xs → PyData.canLayAll0 (xs.map fun l => PyData.str (S l)) = true ∧ PyData.depthAll (xs.map fun l => PyData.str (S l)) ≤ 1
  | [], _ => ⟨rfl, Nat.zero_le _⟩
  | x :: xs, h => by
    obtain ⟨h1, h2⟩ := lay_strs (xs := xs) fun l hl => h l (List.mem_cons_of_mem _ hl)
    refine ⟨?_, ?_⟩
    · show (PyData.canLay0 (.str (S x)) && PyData.canLayAll0 (xs.map fun l => PyData.str (S l))) = true
      rw [h1, Bool.and_true]
      show (S x).cps.all (· < 0x110000) = true
      rw [← Array.all_toList, List.all_eq_true]
      exact fun c hc => decide_eq_true (h x List.mem_cons_self c hc)
    · show max (PyData.depth (.str (S x))) (PyData.depthAll (xs.map fun l => PyData.str (S l))) ≤ 1
      have e : PyData.depth (.str (S x)) ≤ 1 := Nat.zero_le _
      omega
theorem shaped_lst {xs : List (List Nat)} (h : Small xs) : SeqAt.shaped (.list (xs.map fun l => PyData.str (S l))) = true := by
  obtain ⟨h1, h2⟩ := lay_strs h
  show (PyData.canLayAll0 _ && decide (PyData.depthAll _ + 1 ≤ 64)) = true
  rw [h1, Bool.true_and, decide_eq_true_eq]; omega
theorem shaped_tup {xs : List (List Nat)} (h : Small xs) : SeqAt.shaped (.tuple (xs.map fun l => PyData.str (S l))) = true := by
  obtain ⟨h1, h2⟩ := lay_strs h
  show (PyData.canLayAll0 _ && decide (PyData.depthAll _ + 1 ≤ 64)) = true
  rw [h1, Bool.true_and, decide_eq_true_eq]; omega
def rSs (K : PySem.W.Frag) (f : Bool → Bool) : R2 := fun x y H Q => ∃ (a b : Addr) (xs ys : List (List Nat)), x = .ref a ∧ y = .ref b ∧ ((SqL K H a (txs xs) ∧ SqL K H b (txs ys)) ∨ (SqT K H a (txs xs) ∧ SqT K H b (txs ys))) ∧ Small xs ∧ Small ys ∧ Q (.bl (f (decide (xs = ys)))) H
theorem op_eqSs {k : Nat} (hr : Room k X.A) : OpR X (compareOp .Eq) (rSs X.K fun b => b) := by
  intro pins s σ H x y v u Q I rx ry h
  obtain ⟨a, b, xs, ys, rfl, rfl, hh, hx, hy, q⟩ := h
  rcases hh with ⟨h1, h2⟩ | ⟨h1, h2⟩
  · exact op_eqD hr.units pins s σ H _ _ v u Q I rx ry ⟨_, _, .lst h1 (dp_strs xs), .lst h2 (dp_strs ys), shaped_lst hx, shaped_lst hy, by rw [show PyData.eqv (.list (xs.map fun l => PyData.str (S l))) (.list (ys.map fun l => PyData.str (S l))) = _ from eqv_strs xs ys]; exact q⟩
  · exact op_eqD hr.units pins s σ H _ _ v u Q I rx ry ⟨_, _, .tup h1 (dp_strs xs), .tup h2 (dp_strs ys), shaped_tup hx, shaped_tup hy, by rw [show PyData.eqv (.tuple (xs.map fun l => PyData.str (S l))) (.tuple (ys.map fun l => PyData.str (S l))) = _ from eqv_strs xs ys]; exact q⟩
theorem op_neSs {k : Nat} (hr : Room k X.A) : OpR X (compareOp .NotEq) (rSs X.K fun b => !b) := by
  intro pins s σ H x y v u Q I rx ry h
  obtain ⟨a, b, xs, ys, rfl, rfl, hh, hx, hy, q⟩ := h
  rcases hh with ⟨h1, h2⟩ | ⟨h1, h2⟩
  · exact op_neD hr.units pins s σ H _ _ v u Q I rx ry ⟨_, _, .lst h1 (dp_strs xs), .lst h2 (dp_strs ys), shaped_lst hx, shaped_lst hy, by rw [show PyData.eqv (.list (xs.map fun l => PyData.str (S l))) (.list (ys.map fun l => PyData.str (S l))) = _ from eqv_strs xs ys]; exact q⟩
  · exact op_neD hr.units pins s σ H _ _ v u Q I rx ry ⟨_, _, .tup h1 (dp_strs xs), .tup h2 (dp_strs ys), shaped_tup hx, shaped_tup hy, by rw [show PyData.eqv (.tuple (xs.map fun l => PyData.str (S l))) (.tuple (ys.map fun l => PyData.str (S l))) = _ from eqv_strs xs ys]; exact q⟩
end
theorem occ_idx {l : List Nat} {c : Nat} (h : c ∈ l) : ∃ r, Builtin.Str.occurrences (S l) (S [c]) 0 (S l).length 1 = l.idxOf c :: r := by
  have hlt := List.idxOf_lt_length_of_mem h
  have hat : StrLaws.At (S l) (S [c]) (S l).length (l.idxOf c) := (StrLaws.subAt_one (S l) c _).mpr (by show l[l.idxOf c]? = some c; rw [List.getElem?_eq_getElem hlt, List.getElem_idxOf hlt])
  rcases StrLaws.occ_head (S l) (S [c]) 1 (Nat.le_refl _) with ⟨_, hn⟩ | ⟨i, r, e, ha, hn⟩
  · exact absurd hat (hn _)
  · refine ⟨r, ?_⟩
    have hi : l[i]? = some c := (StrLaws.subAt_one (S l) c i).mp ha
    have h1 : ¬ l.idxOf c < i := fun z => hn _ z hat
    have h2 : ¬ i < l.idxOf c := fun z => by
      obtain ⟨hl, e⟩ := List.getElem?_eq_some_iff.mp hi
      have q := List.not_of_lt_findIdx (p := (· == c)) (xs := l) z
      simp [e] at q
    have : i = l.idxOf c := by omega
    rw [e, this]
structure Keep (Rel : Hp → Hp → Prop) (H1 : Hp) : Prop where
  refl : Rel H1 H1
  trans : ∀ H H', Rel H1 H → Rel H H' → Rel H1 H'
  put : ∀ H D o, Rel H1 H → H1 D = none → Rel H1 (upd H D o)
  get : ∀ H H' D o, Rel H H' → H1 D = none → Rel H1 H → H D = some o → H' D = some o
theorem keep_same {H1 : Hp} : Keep Same H1 where
  refl := Same.refl _
  trans := fun _ _ a b => a.trans b
  put := fun H D o s hD b u e => by rw [upd_ne (ne_of_none e hD)]; exact s b u e
  get := fun H H' D o s _ _ e => s _ _ e
def Bk (Pb : HO → Prop) (b : Addr) (H H' : Hp) : Prop := (∀ a o, a ≠ b → H a = some o → H' a = some o) ∧ ∃ o, H' b = some o ∧ Pb o
theorem keep_bk {Pb : HO → Prop} {b : Addr} {H1 : Hp} (h : ∃ o, H1 b = some o ∧ Pb o) : Keep (Bk Pb b) H1 where
  refl := ⟨fun _ _ _ e => e, h⟩
  trans := fun _ _ p q => ⟨fun a o n e => q.1 a o n (p.1 a o n e), q.2⟩
  put := fun H D o s hD => by
    obtain ⟨o1, e1, _⟩ := h
    refine ⟨fun a u n e => by rw [upd_ne (ne_of_none e hD)]; exact s.1 a u n e, ?_⟩
    rw [upd_ne (ne_of_none e1 hD)]
    exact s.2
  get := fun H H' D o s hD _ e => by
    obtain ⟨o1, e1, _⟩ := h
    exact s.1 D o (ne_of_none e1 hD).symm e
theorem bk_same {Pb : HO → Prop} {b : Addr} {H H' : Hp} (s : Same H H') (h : ∃ o, H b = some o ∧ Pb o) : Bk Pb b H H' := ⟨fun a o _ e => s a o e, let ⟨o, e, p⟩ := h; ⟨o, s b o e, p⟩⟩
theorem sm_put {H H' : Hp} {p : Addr} {o : HO} (s : Same H H') (h : H p = none) : Same H (upd H' p o) := fun b u e => by rw [upd_ne (ne_of_none e h)]; exact s b u e
theorem sm_put' {H H' : Hp} {p : Addr} {o : HO} (s : Same H H') (h : H' p = none) : Same H (upd H' p o) := sm_put s (s.free h)
theorem sm_new {H : Hp} {p : Addr} {o : HO} (h : H p = none) : Same H (upd H p o) := sm_put (Same.refl H) h
theorem sm_seqT {K : PySem.W.Frag} {H H' : Hp} {a : Addr} {xs : List V} (e : Same H H') (h : SqT K H a xs) : SqT K H' a xs :=
  h.elim (fun h => .inl (h.elim (fun h => .inl (e _ _ h)) fun ⟨o, h⟩ => .inr ⟨o, e _ _ h⟩)) fun h => .inr h
theorem bk_seq {Pb : HO → Prop} {K : PySem.W.Frag} {b : Addr} {H H' : Hp} {a : Addr} {xs : List V} (e : Bk Pb b H H') (n : a ≠ b) (h : SqL K H a xs) : SqL K H' a xs := by
  rcases h with (h | ⟨o, h⟩) | h
  · exact .inl (.inl (e.1 _ _ n h))
  · exact .inl (.inr ⟨o, e.1 _ _ n h⟩)
  · exact .inr h
theorem lc_keep {Rel : Hp → Hp → Prop} {J : It} {n : Nat} {G : Hp → Prop} {Y : Nat → Hp → V → Hp → Prop} {H1 : Hp} (kp : Keep Rel H1) (w : Walk J n G Y) {g : TG} {te : TE} {vs : List Nat} {σ : L2.St} {D : Addr} {Qd : Hp → Prop} (hD : H1 D = none) (hn : n < sizeLine)
    (Good : Nat → V → Prop) (hG : ∀ H, Rel H1 H → G H)
    (hs : ∀ i x H H' (R : V → Hp → Prop), i < n → Rel H1 H → Y i H x H' → (∀ y H4, Rel H H4 → Good i y → R y H4) → g x (wipe σ vs) H' fun σ2 H2 => wipe σ2 vs = wipe σ vs ∧ te σ2 H2 R)
    (hd : ∀ ys H, ys.length = n → (∀ (j : Nat) y, ys[j]? = some y → Good j y) → Rel H1 H → H D = some (.lst ys) → Qd H) :
    ∃ W : Nat → Nat → Hp → Prop, (∃ m, W 0 m (upd H1 D (.lst []))) ∧ ∀ i m H, W i m H →
      (J.stop i H ∧ Qd H) ∨ (J.go i H ∧ ∃ Nx : Hp → Prop, (∀ H', Nx H' → ∃ m', m' < m ∧ W (i + 1) m' H') ∧ ∀ x H', J.yld i H x H' → g x (wipe σ vs) H' fun σ2 H2 => wipe σ2 vs = wipe σ vs ∧ tYes σ2 H2 fun b H3 =>
        if b = true then te σ2 H3 fun y H4 => ∃ acc, H4 D = some (.lst acc) ∧ acc.length < sizeLine ∧ Nx (upd H4 D (.lst (acc ++ [y]))) else Nx H3) := by
  refine lc_it w (fun i H => ∃ acc, acc.length = i ∧ H D = some (.lst acc) ∧ Rel H1 H ∧ ∀ (j : Nat) y, acc[j]? = some y → Good j y) ⟨[], rfl, upd_same, kp.put _ _ _ kp.refl hD, fun j y e => by simp at e⟩ (fun i H _ ⟨_, _, _, r, _⟩ => hG H r) (fun i x H H' hi ⟨acc, hl, hDa, r, hg⟩ hy => ?_) (fun H ⟨acc, hl, hDa, r, hg⟩ => hd acc H hl hg r hDa)
  refine hs i x H H' _ hi r hy fun y H4 r4 gy => ?_
  refine ⟨acc, kp.get _ _ _ _ r4 hD r hDa, by omega, acc ++ [y], by simp [hl], upd_same, kp.put _ _ _ (kp.trans _ _ r r4) hD, fun j z e => ?_⟩
  rcases Nat.lt_or_ge j acc.length with h | h
  · rw [List.getElem?_append_left h] at e
    exact hg j z e
  · rw [List.getElem?_append_right h] at e
    have hj : j - acc.length = 0 := by
      rcases Nat.lt_or_ge (j - acc.length) 1 with z | z
      · omega
      · rw [List.getElem?_eq_none (by simpa using z)] at e; cases e
    rw [hj] at e
    have : y = z := Option.some.inj e
    subst this
    have : j = i := by omega
    subst this
    exact gy
theorem list_of {α : Type} {ys : List α} {n : Nat} {f : Nat → α} (hl : ys.length = n) (h : ∀ (j : Nat) y, ys[j]? = some y → y = f j) : ys = (List.range n).map f := by
  apply List.ext_getElem
  · simp [hl]
  · intro i h1 h2
    rw [List.getElem_map, List.getElem_range]
    exact h i _ (List.getElem?_eq_getElem h1)
theorem list_map {α β : Type} {ys : List β} {xs : List α} {f : α → β} (hl : ys.length = xs.length) (h : ∀ (j : Nat) y x, ys[j]? = some y → xs[j]? = some x → y = f x) : ys = xs.map f := by
  apply List.ext_getElem
  · simp [hl]
  · intro i h1 h2
    rw [List.getElem_map]
    exact h i _ _ (List.getElem?_eq_getElem h1) (List.getElem?_eq_getElem (by omega))
end LX
namespace LX
open PySem PySem.Spec PyProof.Rows L2 C8 SX
section
variable {X : Cx}
theorem ixl (K : PySem.W.Frag) (h : X.K = K := by rfl) : IxR X (rIxL K) := by subst h; exact ix_list
theorem ixt (K : PySem.W.Frag) (h : X.K = K := by rfl) : IxR X (rIxT K) := by subst h; exact ix_tup
theorem lenK (K : PySem.W.Frag) (h : X.K = K := by rfl) : CallR X (.builtin "len") (fun xs H Q => ∃ p ys, xs = [.ref p] ∧ (SqL K H p ys ∨ SqT K H p ys) ∧ Q (.int ys.length) H) := by subst h; exact call_len_seq
theorem listK (K : PySem.W.Frag) (h : X.K = K := by rfl) : CallR X (.type "list") (fun xs H Q => ∃ p ys, xs = [.ref p] ∧ (SqL K H p ys ∨ SqT K H p ys) ∧ ∀ l, H l = none → Q (.ref l) (upd H l (.lst ys))) := by subst h; exact call_list_of
theorem tupleK (K : PySem.W.Frag) (h : X.K = K := by rfl) : CallR X (.type "tuple") (fun xs H Q => ∃ p ys, xs = [.ref p] ∧ ((SqL K H p ys ∧ ∀ l, H l = none → Q (.ref l) (upd H l (.tup ys))) ∨ (SqT K H p ys ∧ Q (.ref p) H))) := by subst h; exact call_tuple_of
theorem isiK (K : PySem.W.Frag) (h : X.K = K := by rfl) : CallR X (.builtin "isinstance") (rIsi K) := by subst h; exact call_isi
theorem isiTK (K : PySem.W.Frag) (h : X.K = K := by rfl) : CallR X (.builtin "isinstance") (rIsiT K) := by subst h; exact call_isiT
theorem fldK (K : PySem.W.Frag) {o : Expr} {f : Str} {pos : Pos} {ta : TE} (ha : PE X o ta) (hb : attributeBase o f X.env (eval o X.env) = eval o X.env) (h : X.K = K := by rfl) : PE X (.Attribute o f pos) (tFld K ta f) := by subst h; exact pe_fld ha hb
theorem tupK (K : PySem.W.Frag) {es : List Expr} {k : Nat} {pos : Pos} {t : TGs} (n : Nat) (h : PGs X es t) (hc : X.calm = true := by rfl)
    (hn : (assignEach es X.env).length = n := by rfl) (hst : (assignEach es X.env).findIdx? (·.1) = none := by rfl) (hK : X.K = K := by rfl) : PG X (.Tuple es k pos) (gTup K n t) := by subst hK; exact pg_tup hc h hn hst
theorem unlK (K : PySem.W.Frag) {es : List Expr} {k : Nat} {pos : Pos} {t : TGs} (n : Nat) (h : PGs X es t) (hc : X.calm = true := by rfl)
    (hn : (assignEach es X.env).length = n := by rfl) (hst : (assignEach es X.env).findIdx? (·.1) = none := by rfl) (hK : X.K = K := by rfl) : PG X (.Tuple es k pos) (gUnl K n t) := by subst hK; exact pg_unl hc h hn hst
end
def Sr.is (K : PySem.W.Frag) (H : Hp) (xs : List V) : Sr → Prop
  | .txt x => xs = x.cps.toList.map fun c => V.str ⟨#[c]⟩
  | .lst a => SqL K H a xs
  | .tup a => SqT K H a xs
theorem Sr.is_there {K : PySem.W.Frag} {H : Hp} {xs : List V} : ∀ {S : Sr}, S.is K H xs → S.there K H
  | .txt _, _ => trivial
  | .lst _, h => ⟨xs, h⟩
  | .tup _, h => ⟨xs, h⟩
theorem Sr.is_has {K : PySem.W.Frag} {H : Hp} {xs : List V} {i : Nat} (hi : i < xs.length) : ∀ {S : Sr}, S.is K H xs → S.has K i H
  | .txt x, h => by
    have h' : xs = x.cps.toList.map fun c => V.str ⟨#[c]⟩ := h
    rw [h', List.length_map] at hi
    show i < x.cps.size; simpa using hi
  | .lst _, h => ⟨xs, h, hi⟩
  | .tup _, h => ⟨xs, h, hi⟩
theorem Sr.is_upto {K : PySem.W.Frag} {H : Hp} {xs : List V} {i : Nat} (hi : i ≤ xs.length) : ∀ {S : Sr}, S.is K H xs → S.upto K i H
  | .txt x, h => by
    have h' : xs = x.cps.toList.map fun c => V.str ⟨#[c]⟩ := h
    rw [h', List.length_map] at hi
    show i ≤ x.cps.size; simpa using hi
  | .lst _, h => ⟨xs, h, hi⟩
  | .tup _, h => ⟨xs, h, hi⟩
theorem Sr.is_ends {K : PySem.W.Frag} {H : Hp} {xs : List V} {i : Nat} (hi : i = xs.length) : ∀ {S : Sr}, S.is K H xs → S.ends K i H
  | .txt x, h => by
    have h' : xs = x.cps.toList.map fun c => V.str ⟨#[c]⟩ := h
    rw [h', List.length_map] at hi
    show i = x.cps.size; simpa using hi
  | .lst _, h => ⟨xs, h, hi⟩
  | .tup _, h => ⟨xs, h, hi⟩
theorem Sr.is_val {K : PySem.W.Frag} {H : Hp} {xs : List V} {i : Nat} {v : V} : ∀ {S : Sr}, S.is K H xs → S.val K i H v → xs[i]? = some v
  | .txt x, h, ⟨c, e, ev⟩ => by
    have h' : xs = x.cps.toList.map fun c => V.str ⟨#[c]⟩ := h
    have e' : x.cps.toList[i]? = some c := by simpa using e
    rw [h', List.getElem?_map, e', ev]; rfl
  | .lst _, h, e => e xs h
  | .tup _, h, e => e xs h
theorem walk_zipX {K : PySem.W.Frag} {S1 S2 : Sr} {xs ys : List V} : Walk (ItzX K S1 S2) (min xs.length ys.length) (fun H => S1.is K H xs ∧ S2.is K H ys) (YPair (fun i => xs[i]?) (fun i => ys[i]?)) := by
  refine ⟨fun i _ hi q => ⟨Sr.is_has (by omega) q.1, Sr.is_has (by omega) q.2⟩, fun _ q => ⟨Sr.is_upto (by omega) q.1, Sr.is_upto (by omega) q.2, ?_⟩, fun i H v H' _ q y => ?_⟩
  · rcases Nat.le_total xs.length ys.length with h | h
    · exact .inl (Sr.is_ends (by omega) q.1)
    · exact .inr (Sr.is_ends (by omega) q.2)
  · obtain ⟨T, x, z, h1, h2, h3, h4, h5⟩ := y
    exact ⟨T, x, z, h1, h2, h3, Sr.is_val q.1 h4, Sr.is_val q.2 h5⟩
end LX
namespace LX
open PySem PySem.Spec PyProof.Rows L2 C8 SX
theorem lc_keepH {Rel : Hp → Hp → Prop} {J : It} {n : Nat} {G : Hp → Prop} {Y : Nat → Hp → V → Hp → Prop} {H1 : Hp} (kp : Keep Rel H1) (w : Walk J n G Y) {g : TG} {te : TE} {vs : List Nat} {σ : L2.St} {D : Addr} {Qd : Hp → Prop} (hD : H1 D = none) (hn : n < sizeLine)
    (Good : Nat → V → Hp → Prop) (hG : ∀ H, Rel H1 H → G H)
    (st : ∀ i y H H', Rel H1 H → Rel H H' → Good i y H → Good i y H') (pt : ∀ i y H acc o, Rel H1 H → H D = some (.lst acc) → Good i y H → Good i y (upd H D o))
    (hs : ∀ i x H H' acc (R : V → Hp → Prop), i < n → Rel H1 H → H D = some (.lst acc) → Y i H x H' → (∀ y H4, Rel H H4 → Good i y H4 → R y H4) → g x (wipe σ vs) H' fun σ2 H2 => wipe σ2 vs = wipe σ vs ∧ te σ2 H2 R)
    (hd : ∀ ys H, ys.length = n → (∀ (j : Nat) y, ys[j]? = some y → Good j y H) → Rel H1 H → H D = some (.lst ys) → Qd H) :
    ∃ W : Nat → Nat → Hp → Prop, (∃ m, W 0 m (upd H1 D (.lst []))) ∧ ∀ i m H, W i m H →
      (J.stop i H ∧ Qd H) ∨ (J.go i H ∧ ∃ Nx : Hp → Prop, (∀ H', Nx H' → ∃ m', m' < m ∧ W (i + 1) m' H') ∧ ∀ x H', J.yld i H x H' → g x (wipe σ vs) H' fun σ2 H2 => wipe σ2 vs = wipe σ vs ∧ tYes σ2 H2 fun b H3 =>
        if b = true then te σ2 H3 fun y H4 => ∃ acc, H4 D = some (.lst acc) ∧ acc.length < sizeLine ∧ Nx (upd H4 D (.lst (acc ++ [y]))) else Nx H3) := by
  refine lc_it w (fun i H => ∃ acc, acc.length = i ∧ H D = some (.lst acc) ∧ Rel H1 H ∧ ∀ (j : Nat) y, acc[j]? = some y → Good j y H) ⟨[], rfl, upd_same, kp.put _ _ _ kp.refl hD, fun j y e => by simp at e⟩ (fun i H _ ⟨_, _, _, r, _⟩ => hG H r) (fun i x H H' hi ⟨acc, hl, hDa, r, hg⟩ hy => ?_) (fun H ⟨acc, hl, hDa, r, hg⟩ => hd acc H hl hg r hDa)
  refine hs i x H H' acc _ hi r hDa hy fun y H4 r4 gy => ?_
  have hD4 := kp.get _ _ _ _ r4 hD r hDa
  have r5 := kp.trans _ _ r r4
  refine ⟨acc, hD4, by omega, acc ++ [y], by simp [hl], upd_same, kp.put _ _ _ r5 hD, fun j z e => ?_⟩
  rcases Nat.lt_or_ge j acc.length with h | h
  · rw [List.getElem?_append_left h] at e
    exact pt _ _ _ _ _ r5 hD4 (st _ _ _ _ r r4 (hg j z e))
  · rw [List.getElem?_append_right h] at e
    have hj : j - acc.length = 0 := by
      rcases Nat.lt_or_ge (j - acc.length) 1 with z | z
      · omega
      · rw [List.getElem?_eq_none (by simpa using z)] at e; cases e
    rw [hj] at e
    have : y = z := Option.some.inj e
    subst this
    have : j = i := by omega
    subst this
    exact pt _ _ _ _ _ r5 hD4 gy
end LX
set_option maxHeartbeats 2000000
namespace LX
open PySem PySem.Spec PyProof.Rows L2 C8 SX
theorem S_contains (sg : List Nat) (c : Nat) : (S sg).cps.contains c = decide (c ∈ sg) := by
  rw [Bool.eq_iff_iff, decide_eq_true_eq, ← Array.contains_toList]
  simp [S]
theorem S_empty {l : List Nat} : S l = S [] ↔ l = [] := by
  constructor
  · intro h
    have : (S l).cps.toList = (S []).cps.toList := congrArg (fun z : Str => z.cps.toList) h
    simpa [S] using this
  · rintro rfl; rfl
theorem takeWhile_all {p : Nat → Bool} : ∀ {l : List Nat}, (∀ c ∈ l, p c = true) → l.takeWhile p = l
  | [], _ => rfl
  | c :: l, h => by rw [List.takeWhile_cons, if_pos (h c List.mem_cons_self), takeWhile_all fun d hd => h d (List.mem_cons_of_mem _ hd)]
theorem takeWhile_short {p : Nat → Bool} : ∀ {l : List Nat}, ¬ (∀ c ∈ l, p c = true) → (l.takeWhile p).length < l.length ∧ ∃ d r, l.drop (l.takeWhile p).length = d :: r ∧ p d = false
  | [], h => absurd (fun _ h => nomatch h) h
  | c :: l, h => by
    by_cases hc : p c = true
    · have h' : ¬ ∀ c ∈ l, p c = true := fun q => h fun d hd => by
        rcases List.mem_cons.mp hd with rfl | z
        · exact hc
        · exact q d z
      obtain ⟨i1, d, r, i2, i3⟩ := takeWhile_short h'
      rw [List.takeWhile_cons, if_pos hc]
      exact ⟨Nat.succ_lt_succ i1, d, r, i2, i3⟩
    · rw [List.takeWhile_cons, if_neg hc]
      exact ⟨Nat.succ_pos _, c, l, rfl, by simpa using hc⟩
theorem strip_nil {l sg : List Nat} : Txt.stripChars (S l) (S sg) = S [] ↔ ∀ c ∈ l, c ∈ sg := by
  unfold Txt.stripChars Txt.stripBy stripSame stripped stripLo stripHi
  have eg : (S sg).cps.contains = fun c => decide (c ∈ sg) := funext fun c => S_contains sg c
  have el : (S l).cps.toList = l := rfl
  have en : (S l).length = l.length := S_len l
  rw [eg, if_pos rfl, if_pos rfl, el, en]
  generalize hp : (fun c => decide (c ∈ sg)) = p
  have hpc : ∀ c, p c = true ↔ c ∈ sg := fun c => by rw [← hp]; exact decide_eq_true_iff
  by_cases h : ∀ c ∈ l, p c = true
  · refine ⟨fun _ c hc => (hpc c).mp (h c hc), fun _ => ?_⟩
    rw [takeWhile_all h, List.drop_length, List.reverse_nil, List.takeWhile_nil, List.length_nil, Nat.sub_zero]
    by_cases e : l = []
    · subst e; rfl
    · have : l.length ≠ 0 := fun z => e (List.length_eq_zero_iff.mp z)
      rw [if_neg (by simpa using this)]
      show (⟨(S l).cps.extract l.length l.length⟩ : Str) = S []
      simp [S]
  · obtain ⟨i1, d, r, i2, i3⟩ := takeWhile_short h
    refine ⟨fun e => absurd e ?_, fun q => absurd (fun c hc => (hpc c).mpr (q c hc)) h⟩
    rw [i2]
    have hr : ¬ ∀ c ∈ (d :: r).reverse, p c = true := fun q => by have := q d (by simp); rw [i3] at this; cases this
    have j1 := (takeWhile_short hr).1
    have hlen : (d :: r).length = l.length - (l.takeWhile p).length := by rw [← i2, List.length_drop]
    rw [List.length_reverse] at j1
    by_cases same : ((l.takeWhile p).length == 0 && l.length - ((d :: r).reverse.takeWhile p).length == l.length) = true
    · rw [if_pos same]
      intro e
      have := S_empty.mp e
      subst this
      exact absurd i1 (by simp)
    · rw [if_neg same]
      intro e
      have e2 : ((S l).cps.extract (l.takeWhile p).length (l.length - ((d :: r).reverse.takeWhile p).length)).size = 0 := by
        have : (Builtin.Str.strSub (S l) (l.takeWhile p).length (l.length - ((d :: r).reverse.takeWhile p).length)).cps = (S []).cps := by rw [e]
        rw [show (S l).cps.extract (l.takeWhile p).length (l.length - ((d :: r).reverse.takeWhile p).length) = (S []).cps from this]; rfl
      rw [Array.size_extract] at e2
      have e3 : (S l).cps.size = l.length := by simp [S]
      rw [e3] at e2
      omega
theorem strip_eq {l sg : List Nat} : decide (Txt.stripChars (S l) (S sg) = S []) = decide (∀ c ∈ l, c ∈ sg) := decide_eq_decide.mpr strip_nil
def az : List Nat := (List.range 26).map (· + 97)
theorem az_mem {c : Nat} : c ∈ az ↔ 97 ≤ c ∧ c ≤ 122 := by
  unfold az
  rw [List.mem_map]
  constructor
  · rintro ⟨i, hi, rfl⟩
    have := List.mem_range.mp hi
    omega
  · rintro ⟨h1, h2⟩
    exact ⟨c - 97, List.mem_range.mpr (by omega), by omega⟩
theorem s_az : (Str.ofString "abcdefghijklmnopqrstuvwxyz") = S az := by decide +kernel
end LX
namespace LX
open PySem PySem.Spec PyProof.Rows L2 C8 SX
def bx (x y z : Int) : HO := .lst [.int x, .int y, .int z]
def isBx (o : HO) : Prop := ∃ x y z : Int, o = bx x y z
def BoxAt (b : Addr) (H : Hp) : Prop := ∃ o, H b = some o ∧ isBx o
abbrev Bx (b : Addr) : Hp → Hp → Prop := Bk isBx b
theorem Bx.box {b : Addr} {H H' : Hp} (h : Bx b H H') : BoxAt b H' := h.2
theorem BoxAt.of {b : Addr} {H : Hp} {x y z : Int} (h : H b = some (bx x y z)) : BoxAt b H := ⟨_, h, _, _, _, rfl⟩
theorem Bx.mk {b : Addr} {H : Hp} (x y z : Int) : Bx b H (upd H b (bx x y z)) := ⟨fun a o n e => by rw [upd_ne n]; exact e, _, upd_same, _, _, _, rfl⟩
theorem Bx.trans {b : Addr} {H H1 H2 : Hp} (p : Bx b H H1) (q : Bx b H1 H2) : Bx b H H2 := ⟨fun a o n e => q.1 a o n (p.1 a o n e), q.2⟩
theorem box_ne {b p : Addr} {H : Hp} (h : BoxAt b H) (n : H p = none) : p ≠ b := by
  obtain ⟨o, e, _⟩ := h
  exact (ne_of_none e n).symm
theorem Bx.put {b p : Addr} {H H1 : Hp} {o : HO} (s : Bx b H H1) (h : BoxAt b H) (n : H p = none) : Bx b H (upd H1 p o) := (keep_bk h).put _ _ _ s n
theorem Bx.free {b p : Addr} {H H1 : Hp} (s : Bx b H H1) (n : H1 p = none) : H p = none := by
  cases q : H p with
  | none => rfl
  | some o =>
    by_cases e : p = b
    · subst e; obtain ⟨u, z, _⟩ := s.2; rw [n] at z; cases z
    · rw [s.1 p o e q] at n; cases n
theorem nil1 {σ : L2.St} {H : Hp} {R : List V → Hp → Prop} (h : R [] H) : tNil σ H R := h
theorem consc {v : V} {σ : L2.St} {H : Hp} {R : List V → Hp → Prop} (h : R [v] H) : tCons (tC v) tNil σ H R := h
theorem tc1 {v : V} {σ : L2.St} {H : Hp} {Q : VK} (h : Q v H) : tC v σ H Q := h
theorem ne_str {l r : Str} {H : Hp} {R : VK} (e : l = r) (h : R (.bl false) H) : rNe (.str l) (.str r) H R := ⟨rfl, by rw [decide_eq_true (by rw [e])]; exact h⟩
theorem bl_f {p : Bool → Prop} (h : p false) : ∃ k, V.bl false = V.bl k ∧ p k := ⟨false, rfl, h⟩
theorem if_f {p q : Prop} (h : q) : if false = true then p else q := h
theorem iteB {c : Bool} {A B : Prop} (hc : c = true) (h : A) : if c = true then A else B := by rw [if_pos hc]; exact h
theorem iteN {c : Bool} {A B : Prop} (hc : c = false) (h : B) : if c = true then A else B := by rw [hc]; exact iteF h
theorem perm_at {α : Type} : ∀ {xs : List α} {i : Nat} (h : i < xs.length), (xs[i] :: xs.eraseIdx i).Perm xs
  | x :: xs, 0, _ => List.Perm.refl _
  | x :: xs, i + 1, h => (List.Perm.swap x _ _).trans ((perm_at (xs := xs) (i := i) (Nat.lt_of_succ_lt_succ h)).cons x)
theorem eraseIdx_map' {α β : Type} (f : α → β) : ∀ (xs : List α) (i : Nat), (xs.map f).eraseIdx i = (xs.eraseIdx i).map f
  | [], i => by cases i <;> rfl
  | x :: xs, 0 => rfl
  | x :: xs, i + 1 => congrArg (f x :: ·) (eraseIdx_map' f xs i)
theorem perm_map_inv {α β : Type} {f : α → β} {g : β → α} (hg : ∀ a, g (f a) = a) {ys : List β} {xs : List α} (h : ys.Perm (xs.map f)) : ∃ zs : List α, ys = zs.map f ∧ zs.Perm xs := by
  refine ⟨ys.map g, ?_, ?_⟩
  · rw [List.map_map]
    have : ys.map (f ∘ g) = ys.map id := List.map_congr_left fun y hy => by
      obtain ⟨a, _, rfl⟩ := List.mem_map.mp (h.subset hy)
      show f (g (f a)) = f a
      rw [hg]
    rw [this, List.map_id]
  · have e := h.map g
    rw [List.map_map] at e
    have : xs.map (g ∘ f) = xs.map id := List.map_congr_left fun a _ => hg a
    rw [this, List.map_id] at e
    exact e
theorem sums_singles : ∀ l : List Nat, ((l.map fun c => S [c]).map (·.length)).sum = l.length
  | [] => rfl
  | c :: l => by simp only [List.map_cons, List.sum_cons, sums_singles l, List.length_cons]; rw [S_len]; simp; omega
theorem join_nil : ∀ ys : List (List Nat), TL.joinL [] ys = ys.flatten
  | [] => rfl
  | [y] => by simp [TL.joinL]
  | y :: z :: ys => by
    have ih := join_nil (z :: ys)
    simp [TL.joinL] at ih ⊢
    exact ih
theorem join_txs (ys : List (List Nat)) : Txt.join (S []) (ys.map S) = S ys.flatten := by rw [join_S, join_nil]
theorem flat_singles : ∀ l : List Nat, (l.map fun c => [c]).flatten = l
  | [] => rfl
  | c :: l => by rw [List.map_cons, List.flatten_cons, flat_singles l]; rfl
theorem join_singles (l : List Nat) : Txt.join (S []) (l.map fun c => S [c]) = S l := by
  have e1 : (l.map fun c => S [c]) = (l.map fun c => [c]).map S := by rw [List.map_map]; rfl
  rw [e1, join_txs, flat_singles]
theorem rising_singles : ∀ (ds : List Nat) (c : Nat), risingS (S [c]) (ds.map fun d => S [d]) = true → (∀ d ∈ ds, c ≤ d) ∧ ds.Pairwise (· ≤ ·)
  | [], _, _ => ⟨fun _ h => (nomatch h), .nil⟩
  | d :: ds, c, h => by
    have h' : (!ltCps [d] [c] && risingS (S [d]) (ds.map fun d => S [d])) = true := h
    rw [Bool.and_eq_true, Bool.not_eq_true'] at h'
    obtain ⟨h1, h2⟩ := h'
    obtain ⟨i1, i2⟩ := rising_singles ds d h2
    have hcd : c ≤ d := by
      rcases Nat.lt_or_ge d c with q | q
      · simp [ltCps, q] at h1
      · exact q
    refine ⟨fun e he => ?_, List.pairwise_cons.mpr ⟨i1, i2⟩⟩
    rcases List.mem_cons.mp he with rfl | he
    · exact hcd
    · exact Nat.le_trans hcd (i1 e he)
theorem sorted_singles {ds : List Nat} (h : sortedS (ds.map fun d => S [d]) = true) : ds.Pairwise (· ≤ ·) := by
  cases ds with
  | nil => exact .nil
  | cons d ds =>
    obtain ⟨i1, i2⟩ := rising_singles ds d h
    exact List.pairwise_cons.mpr ⟨i1, i2⟩
theorem strict_of {ds : List Nat} (h : ds.Pairwise (· ≤ ·)) (n : ds.Nodup) : ds.Pairwise (· < ·) :=
  (h.and n).imp fun ⟨a, b⟩ => Nat.lt_of_le_of_ne a b
open Classical in
theorem fun_of {α γ : Type} [DecidableEq α] [Inhabited γ] {sg : List α} (n : sg.Nodup) {P : Nat → α → γ → Prop} (h : ∀ j c, sg[j]? = some c → ∃ v, P j c v) : ∃ g : α → γ, ∀ j c, sg[j]? = some c → P j c (g c) := by
  refine ⟨fun c => if q : ∃ v, P (sg.idxOf c) c v then q.choose else default, fun j c e => ?_⟩
  have hj : j = sg.idxOf c := by
    obtain ⟨hl, e2⟩ := List.getElem?_eq_some_iff.mp e
    subst e2
    exact (n.idxOf_getElem j hl).symm
  have q : ∃ v, P (sg.idxOf c) c v := hj ▸ h j c e
  show P j c (dite _ _ _)
  rw [dif_pos q, hj]
  exact q.choose_spec
theorem paired_map {α β γ : Type} {R : α → β → Prop} {f : γ → α} {g : γ → β} : ∀ {l : List γ}, (∀ c ∈ l, R (f c) (g c)) → Paired R (l.map f) (l.map g)
  | [], _ => .nil
  | c :: l, h => .cons (h c List.mem_cons_self) (paired_map fun d hd => h d (List.mem_cons_of_mem _ hd))
abbrev tk (l : List Nat) : Key := Sum.inr (S l)
theorem tk_inj {l r : List Nat} (h : tk l = tk r) : l = r := by
  have e : S l = S r := Sum.inr.inj h
  have : (S l).cps.toList = (S r).cps.toList := by rw [e]
  simpa [S] using this
theorem valV_none {kvs : List (Key × V)} {k : Key} (h : ∀ p ∈ kvs, p.1 ≠ k) : valV kvs k = none := by
  unfold valV
  rw [List.find?_eq_none.mpr fun p hp => by simpa using h p hp]
  rfl
theorem valV_map' {α : Type} [DecidableEq α] {key : α → Key} (inj : ∀ a b, key a = key b → a = b) {f : α → V} : ∀ {l : List α} {c : α}, c ∈ l → valV (l.map fun a => (key a, f a)) (key c) = some (f c)
  | a :: l, c, h => by
    by_cases e : a = c
    · subst e; exact valV_pos rfl
    · rw [List.map_cons, valV_neg (fun q => e (inj _ _ q))]
      refine valV_map' inj ?_
      rcases List.mem_cons.mp h with q | q
      · exact absurd q.symm e
      · exact q
theorem merge_new : ∀ {more kvs : List (Key × V)}, (∀ p ∈ more, ∀ q ∈ kvs, q.1 ≠ p.1) → (more.map (·.1)).Nodup → mergeK kvs more = kvs ++ more
  | [], kvs, _, _ => by rw [List.append_nil]; rfl
  | p :: more, kvs, h, n => by
    have e : putK kvs p.1 p.2 = kvs ++ [p] := putK_new _ (valV_none fun q hq => h p List.mem_cons_self q hq)
    show mergeK (putK kvs p.1 p.2) more = _
    rw [List.map_cons, List.nodup_cons] at n
    rw [e, merge_new (fun r hr q hq => ?_) n.2, List.append_assoc]
    · rfl
    · rcases List.mem_append.mp hq with hq | hq
      · exact h r (List.mem_cons_of_mem _ hr) q hq
      · rw [List.mem_singleton] at hq
        subst hq
        exact fun e => n.1 (e ▸ List.mem_map_of_mem hr)
theorem merge_nil {more : List (Key × V)} (n : (more.map (·.1)).Nodup) : mergeK [] more = more := by
  rw [merge_new (fun _ _ q h => absurd h List.not_mem_nil) n]; rfl
theorem nodup_keys {α : Type} {key : α → Key} (inj : ∀ a b, key a = key b → a = b) {f : α → V} {l : List α} (n : l.Nodup) : ((l.map fun a => (key a, f a)).map (·.1)).Nodup := by
  rw [List.map_map]
  exact List.pairwise_map.mpr (n.imp fun h e => h (inj _ _ e))
theorem cut_to (ys : List (List Nat)) (k : Nat) : cutV (txs ys) none (some (k : Int)) = txs (ys.take k) := by
  unfold cutV
  rw [HT.sIx_none, HT.sIx_nat, List.drop_zero, Nat.sub_zero, txs_len]
  unfold txs
  rw [← List.map_take]
  rcases Nat.le_total k ys.length with h | h
  · rw [Nat.min_eq_left h]
  · rw [Nat.min_eq_right h, List.take_length, List.take_of_length_le h]
theorem tup_ne_box {H : Hp} {t b : Addr} {xs : List V} (hb : BoxAt b H) (ht : H t = some (.tup xs)) : t ≠ b := by
  obtain ⟨o, e, x, y, z, rfl⟩ := hb
  exact ne_of ht e (by intro h; cases h)
theorem dict_ne_box {H : Hp} {t b : Addr} {xs : List (Key × V)} (hb : BoxAt b H) (ht : H t = some (.dK xs)) : t ≠ b := by
  obtain ⟨o, e, x, y, z, rfl⟩ := hb
  exact ne_of ht e (by intro h; cases h)
theorem not_in_take {α : Type} [DecidableEq α] {ms : List α} {i : Nat} {m : α} (n : ms.Nodup) (h : ms[i]? = some m) : m ∉ ms.take i := fun hm => by
  obtain ⟨j, hj⟩ := List.getElem?_of_mem hm
  have hji : j < i := by
    have := (List.getElem?_eq_some_iff.mp hj).1
    rw [List.length_take] at this; omega
  rw [List.getElem?_take_of_lt hji] at hj
  have h1 := (List.getElem?_eq_some_iff.mp h)
  have h2 := (List.getElem?_eq_some_iff.mp hj)
  obtain ⟨a1, a2⟩ := h1
  obtain ⟨b1, b2⟩ := h2
  have e1 : ms.idxOf m = i := by subst a2; exact n.idxOf_getElem i a1
  have e2 : ms.idxOf m = j := by subst b2; exact n.idxOf_getElem j b1
  omega
theorem take_more {α : Type} {ms : List α} {i : Nat} {m : α} (h : ms[i]? = some m) : ms.take (i + 1) = ms.take i ++ [m] := by
  rw [List.take_succ, h]; rfl
theorem sz {n m : Nat} (h : n ≤ m) (hm : m ≤ 1000) : n ≤ sizeLine := Nat.le_trans (Nat.le_trans h hm) (show 1000 ≤ sizeLine by decide)
end LX
set_option maxHeartbeats 2000000
namespace LX
open PySem PySem.Spec PyProof.Rows L2 C8 SX
structure FnG (P : Program) (w : World) (K : PySem.W.Frag) (mg : Str → Option Value) (base : Heap) (k : Nat) (f : Addr) (fd : FuncData) (ps : List Str) (sp : Sp) : Prop where
  many : ∀ vs H Q E, sp vs H Q E → vs.length = ps.length
  goes : ∀ (A : Around) (ou : List Env) (t : Shared) (H : Hp) (gs : Args) (us : List Value) (vs : List V) (Q : VK) (E : XK), A.guards = some [] → Room k A → Env0 P w K mg base A ou t H → BindsTo t fd gs (ps.zip us) → Vals vs us →
    sp vs H Q E → codeAny (model P w) A (.call (.ref f) gs) (CR C8.CX0 ou P w H t Q E) t
theorem FnG.of {P : Program} {w : World} {K : PySem.W.Frag} {mg : Str → Option Value} {base : Heap} {k : Nat} {f : Addr} {fd : FuncData} {ps : List Str} {sp : Sp} (F : FnOk P w K mg base C8.CX0 k f fd ps sp) : FnG P w K mg base k f fd ps sp :=
  ⟨F.len, fun A ou t H gs us vs Q E _ => F.run A ou t H gs us vs Q E⟩
theorem fnG0 {P : Program} {w : World} {K : PySem.W.Frag} {mg : Str → Option Value} {base : Heap} {x ql : Str} {st : Stmt} {f : Addr} {fd : FuncData} {N ps : List Str} {k : Nat} {sp : Sp} (F : C8.Fun K x ql st f fd) (Sc : FnScope N ps (C8.fnScope st))
    (many : ∀ vs H Q E, sp vs H Q E → vs.length = ps.length)
    (h : ∀ (cd : Value) (A : Around) (ou : List Env) (t : Shared) (H : Hp) (vs : List V) (Q : VK) (E : XK), A.guards = some [] → Room k (A.deeper (envOfC ql (C8.fnScope st) t.heap.objs.size f cd)) → sp vs H Q E →
      ∃ r, PSs (cxOf C8.CX0 P w K mg base N ql (C8.fnScope st) f cd A ou t H E).nox (C8.fnBody st) r ∧ r { nx := fun _ H' => Q .non H', rt := Q } (L2.start N vs) H) : FnG P w K mg base (k + 1) f fd ps sp := by
  obtain ⟨oc, od, dV, kV, doc, pm, an, cd, ct, osl, rfl, at_, code⟩ := F.ex
  constructor
  · exact many
  intro A ou t H gs us vs Q E gd room e0 bound rel want
  have count := many _ _ _ _ want
  have old : ∀ (b : Addr) (o : Obj), base.get? b = some o → t.heap.get? b = some o := fun b o e => (e0.bs b o e).1
  have KT : K.In t.heap := e0.mod.kin.keeps old
  have kinds : ∀ y ∈ ps.zip us, (C8.fnScope st).names.lookup y.1 = some .local ∨ ((C8.fnScope st).names.lookup y.1 = some .cell ∧ ((cellsFrom (t.heap.objs.size + 1) (C8.fnScope st).names []).lookup y.1).isSome = true) := by
    intro y hy
    obtain ⟨n, v⟩ := y
    exact (Sc.par n (List.of_mem_zip hy).1).elim .inl fun q => .inr ⟨q, PySem.W.cellsFrom_some _ _ _ (.inl q)⟩
  refine codeAny_call_function room.depth (KT _ _ at_) rfl Sc.co Sc.gen rfl (PySem.W.codeRec_of KT code) (bound _ _ _ _ ?_)
  refine wpAny_newFunctionEnv_cells Sc.kind kinds fun en en_is t1 inside => ?_
  subst en_is
  refine ⟨(e0.mod.nolimit.keeps old).keeps inside.toInCall.keep, codeAny_func ?_⟩
  obtain ⟨r, body, read⟩ := h cd A ou t H vs Q E gd (room.deeper _) want
  have I0 := inv_start (CX := C8.CX0) (E := E) Sc room.hd e0 count rel inside
  refine wpAny_mono (body.nox.run [] t1 (L2.start N vs) H _ I0 read) (fun fl t' got => ?_) fun _ _ got => got
  cases fl with
  | ret u => exact let ⟨v, _, H', J, rv, q⟩ := got; ⟨v, H', J.os, J.bare, J.base, J.hok, rv, q⟩
  | next => exact let ⟨_, H', J, q⟩ := got; ⟨.non, H', J.os, J.bare, J.base, J.hok, rfl, q⟩
  | brk => exact let ⟨_, _, _, q⟩ := got; False.elim q
  | cont => exact let ⟨_, _, _, q⟩ := got; False.elim q
structure CalG (P : Program) (w : World) (K : PySem.W.Frag) (mg : Str → Option Value) (base : Heap) (k : Nat) (x : Str) (sp : Sp) : Prop where
  ex : ∃ (f : Addr) (fd : FuncData) (ps : List Str), FnG P w K mg base k f fd ps sp ∧ mg x = some (.ref f) ∧ PySem.W.keepIn K (.ref f) = true ∧ Binds K fd ps []
structure MetG (P : Program) (w : World) (K : PySem.W.Frag) (mg : Str → Option Value) (base : Heap) (k : Nat) (C : Addr) (m : Str) (sp : Sp) : Prop where
  ex : ∃ (f : Addr) (fd : FuncData) (ps : List Str), Cls K C ∧ Meth K C m f ∧ FnG P w K mg base k f fd ps sp ∧ Binds K fd ps []
section
variable {X : Cx} {k j : Nat} {f C : Addr} {fd : FuncData} {ps : List Str} {sp : Sp} {x m : Str} {p pos apos : Pos} {e o : Expr} {es : List Expr} {ta : TE} {t : TA}
theorem goesG {pins : List (Addr × Obj)} {σ : L2.St} {H : Hp} {s : Shared} {Q : VK} {us : List Value} {vs : List V} (F : FnG X.prog X.w X.K X.mg X.base k f fd ps sp) (gd : X.A.guards = some []) (room : Room k X.A) (bd : Binds X.K fd ps [])
    (I : Inv X pins σ H s) (rel : Vals vs us) (want : sp (vs ++ []) H Q C8.E0) : wpAny (model X.prog X.w) X.A (call (.ref f) us) (EP X pins σ Q) X.xe s := by
  rw [List.append_nil] at want
  have count : (us ++ []).length = ps.length := by rw [List.append_nil, ← rel.length]; exact F.many _ _ _ _ want
  have bs := bd s us I.kIn count
  rw [List.append_nil] at bs
  refine wpAny_call (codeAny_mono (F.goes X.A X.stack s H ⟨us, []⟩ us vs Q C8.E0 gd room I.env0 bs rel want) fun r t' got => ?_)
  match r, got with
  | .ok (.ret u), got => exact I.after got
theorem pe_cG (c : CalG X.prog X.w X.K X.mg X.base k x sp) (gd : X.A.guards = some []) (room : Room j X.A) (hk : k ≤ j) (hg : Gl X x) (ha : PA X (e :: es) t) (hdb : (x == ("__debug__" : Str)) = false := by decide)
    (he : starEach (e :: es) X.env = (false, eval e X.env) :: starEach es X.env := by rfl) (hpl : (backTo pos (starEach es X.env)).any (·.1) = false := by rfl) : PE X (.Call (.Name x p) (e :: es) [] pos) (tCall sp [] C8.E0 t) := by
  obtain ⟨f, fd, ps, F, named, kept, bd⟩ := c.ex
  constructor
  intro pins s σ H Q I want
  refine wpAny_Call_Name_kw (ld_glob I hg named ?_ hdb)
  refine PySem.W.callWith_K (h₀ := X.base) I.ok.mod.kin kept (thn (ha.run pos pins s σ H _ I want) ?_) he hpl
  rintro us s1 ⟨vs, H1, I1, rel, q⟩
  exact ⟨I1.kIn, goesG F gd (room.mono hk) bd I1 rel q⟩
theorem call_reprG (gd : X.A.guards = some []) (room : Room j X.A) : CallR X (.builtin "repr") (fun xs H Q => ∃ (a : Addr) (d : PyData), xs = [.ref a] ∧ Dp X.K H (.ref a) d ∧ d.showable = true ∧ d.hasDict = false ∧ d.depth ≤ 60 ∧ d.shown.length ≤ sizeLine ∧ Q (.str d.shown) H) := by
  intro pins s σ H xs us Q I rel want
  obtain ⟨a, d, rfl, hd, sh, nd, dep, sz, q⟩ := want
  obtain ⟨u, rfl, ru⟩ := vals1 rel
  obtain rfl : u = Value.ref a := ru
  obtain ⟨as, rd⟩ := Dp.reads I d (.ref a) (.ref a) hd rfl
  have un := room.un
  refine repr_of_reads' rd sh (PyData.noDict_hsm nd) gd (by omega) (fun _ _ z => z) (fun h' u tk kept => ?_) sz
  exact ⟨.str d.shown, H, I.kept kept, ⟨_, rfl⟩, q⟩
end
abbrev Done (s s' : Shared) (r : Result) : Prop := r = .ok (.ret (.bool true)) ∧ OldK s.heap s'.heap ∧ s'.os = s.os ∧ AllBare s'.gens
section
variable {P : Program} {w : World} {K : PySem.W.Frag} {mg mb : Str → Option Value} {k : Nat} {fa a : Addr} {fd : FuncData} {x : Str} {sp : Sp} {s : Shared} {vs : List Value} {ns : List Int}
theorem lawG_at {H : Hp} (KX : K.In s.heap) (hns : s.heap.Ns mainGlobals mg) (hb : s.heap.Ns builtinsNs mb) (hbb : ∀ x : Str, x ≠ "__name__" → mb x = bootBuiltins x) (lim : s.heap.NoLimit) (gens : s.gens = #[])
    (ha : s.heap.get? a = some { cls := .type "list", data := .seq vs.toArray }) (room : Room k callerA) (F : ∀ base : Heap, K.In base → base.Ns mainGlobals mg → FnG P w K mg base k fa fd [x] sp)
    (bd : ∀ (s : Shared) (u : Value), BindsTo s fd ⟨[u], []⟩ [(x, u)]) (only : Only H) (want : sp [.ref a] H (fun v _ => v = .bl true) C8.E0) (ok : HOk P w H s.heap) (at_a : ∀ b, H b ≠ none → b = a) (not_K : H a ≠ none → K.lookup a = none) :
    codeAny (model P w) callerA (.call (.ref fa) ⟨[.ref a], []⟩) (fun r s' => Done s s' r) s := by
  have free : ∀ {b : Addr}, b ≠ a → H b = none := fun {b} hn => by
    cases q : H b with
    | none => rfl
    | some u => exact absurd (at_a b (by rw [q]; simp)) hn
  have dict_free : ∀ {b : Addr} {o : Obj} {es : Array DictEntry} {ep : Nat}, s.heap.get? b = some o → o.data = .dict es ep → H b = none := fun {b o es ep} e d => free fun eq => by
    rw [eq, ha] at e
    cases e
    have d2 : Data.seq vs.toArray _ = Data.dict es ep := d
    cases d2
  have names : ∀ {b : Addr} {m : Str → Option Value}, s.heap.Ns b m → (hidT s.heap H).Ns b m := fun {b m} ⟨o, es, ep, e, d, r⟩ => ⟨o, es, ep, hidT_get e (dict_free e d), d, r⟩
  have hK : K.In (hidT s.heap H) := fun b o e => hidT_get (KX b o e) (by
    by_cases eq : b = a
    · subst eq
      cases q : H b with
      | none => rfl
      | some u => rw [not_K (by rw [q]; simp)] at e; cases e
    · exact free eq)
  have md : Mod K mg (hidT s.heap H) := by
    obtain ⟨mc, c1, c2⟩ := lim
    exact ⟨hK, names hns, ⟨mb, names hb, hbb⟩, mc, names c1, c2⟩
  have e0 : Env0 P w K mg (hidT s.heap H) callerA [] s H := ⟨rfl, md, fun _ _ e => of_hidT e, Nat.le_of_eq (hidT_size _ _), trivial, fun _ hm => absurd hm (List.not_mem_nil), ok, .of_eq gens⟩
  refine codeAny_mono ((F _ hK (names hns)).goes callerA [] s H ⟨[.ref a], []⟩ [.ref a] [.ref a] _ _ rfl room e0 (bd s (.ref a)) (.cons rfl .nil) want) fun r t got => ?_
  match r, got with
  | .ok (.ret u), got =>
    obtain ⟨v, H2, os, bare, un, ok2, rel, is_true⟩ := got
    obtain rfl : v = V.bl true := is_true
    obtain rfl : u = Value.bool true := rel
    refine ⟨rfl, OldK.of_keep fun b o e => ?_, os, bare⟩
    rcases only b with none_ | ⟨ob, xs, frozen⟩
    · exact un.keep b o e none_ (fun z => absurd z List.not_mem_nil) (by simp)
    · obtain ⟨e1, _⟩ := ok b _ frozen
      obtain ⟨e2, _⟩ := ok2 b _ (un.frzs b ob _ frozen)
      rw [e] at e1
      cases e1
      exact e2
theorem lawG_call (KX : K.In s.heap) (hns : s.heap.Ns mainGlobals mg) (hb : s.heap.Ns builtinsNs mb) (hbb : ∀ x : Str, x ≠ "__name__" → mb x = bootBuiltins x) (lim : s.heap.NoLimit) (gens : s.gens = #[])
    (ha : s.heap.get? a = some { cls := .type "list", data := .seq vs.toArray }) (hi : IntsAre vs ns) (hl : ns.length ≤ sizeLine) (room : Room k callerA) (F : ∀ base : Heap, K.In base → base.Ns mainGlobals mg → FnG P w K mg base k fa fd [x] sp)
    (bd : ∀ (s : Shared) (u : Value), BindsTo s fd ⟨[u], []⟩ [(x, u)]) (want : ∀ H : Hp, Only H → SqL K H a (ns.map V.int) → sp [.ref a] H (fun v _ => v = .bl true) C8.E0) :
    codeAny (model P w) callerA (.call (.ref fa) ⟨[.ref a], []⟩) (fun r s' => Done s s' r) s := by
  have rel := vals_ints hi
  cases own : K.lookup a with
  | some o =>
    have e := KX a o own
    rw [ha] at e
    cases e
    have only : Only (fun _ => none : Hp) := fun _ => .inl rfl
    have sq : SqL K (fun _ => none) a (ns.map V.int) := .inr ⟨_, vs.toArray, _, own, rfl, rfl, rfl, by rw [List.size_toArray, hi.length]; exact hl, by simpa using rel⟩
    refine lawG_at KX hns hb hbb lim gens ha room F bd only (want _ only sq) ?_ (fun b z => absurd rfl z) fun z => absurd rfl z
    intro b u z
    have z2 : (none : Option HO) = some u := z
    cases z2
  | none =>
    let one : HO := .frz { cls := .type "list", data := .seq vs.toArray } (.lst (ns.map V.int))
    let H : Hp := fun b => if b = a then some one else none
    have here : H a = some one := if_pos rfl
    have else_ : ∀ {b : Addr}, b ≠ a → H b = none := fun hn => if_neg hn
    have only : Only H := fun b => by
      by_cases e : b = a
      · exact .inr ⟨_, _, by rw [e]; exact here⟩
      · exact .inl (else_ e)
    refine lawG_at KX hns hb hbb lim gens ha room F bd only (want H only (.inl (.inr ⟨_, here⟩))) (fun b u z => ?_) (fun b z => ?_) fun _ => own
    · by_cases e : b = a
      · subst e
        rw [here] at z
        cases z
        exact ⟨ha, by rw [List.length_map]; exact hl, vs, _, rel, ha⟩
      · rw [else_ e] at z
        cases z
    · by_cases e : b = a
      · exact e
      · exact absurd (else_ e) z
end
theorem walkG {l : PySem.W.OpenLaw} {n k : Nat} {q : Program} {loose : List Str} {XP : (Str → Option Value) → Heap → Prop} {YP : World → Heap → Prop} {d : DefRec} {K : Params → PySem.W.Frag} {sp : PySem.W.Frag → Sp} {x : Str} (hn : l.most = some n) (hn2 : n ≤ sizeLine)
    (hdf : d.params.defaults = []) (room : Room k callerA) (hY : ∀ (w : World) (h : Heap), YP w h → (K w.params).In h)
    (F : ∀ (w : World) (mg : Str → Option Value) (fa : Addr) (h : Heap), (K w.params).In h → h.Ns mainGlobals mg → mg d.name = some (.ref fa) →
      ∃ fd : FuncData, (∀ (s : Shared) (u : Value), BindsTo s fd ⟨[u], []⟩ [(x, u)]) ∧ ∀ base : Heap, (K w.params).In base → base.Ns mainGlobals mg → FnG l.prog w (K w.params) mg base k fa fd [x] (sp (K w.params)))
    (want : ∀ (K : PySem.W.Frag) (H : Hp) (a : Addr) (ns : List Int), ns.length ≤ n → Only H → SqL K H a (ns.map V.int) → sp K [.ref a] H (fun v _ => v = .bl true) C8.E0) : PySem.W.WalkO q loose XP YP l.row.toRowW d [] (fun f vs => PySem.call f vs) := by
  refine Att.attach_call hn hdf ?_
  intro w s0 s1 mg mb fa o pm cd doc a vs ns G Y _ _ _ named list_ nums few gens
  have KX := hY w _ Y
  obtain ⟨fd, bd, F1⟩ := F w mg fa _ KX G.T.g named
  exact lawG_call KX G.T.g G.T.b G.T.builtins G.T.nolimit gens list_ nums (Nat.le_trans few hn2) room F1 bd fun H only sq => want _ H a ns few only sq
end LX
set_option maxHeartbeats 2000000
namespace LX
open PySem PySem.Spec PyProof.Rows L2 C8 SX
section
variable {prog : Program} {w : World} {A : Around} {E : Value → Shared → Prop} {s : Shared} {z TI TO i1 i2 : Addr} {fp1 fp2 : List Addr} {n1 n2 i : Nat} {P1 P2 : Nat → Value → Prop} {St1 St2 : Nat → Heap → Prop}
theorem zipD2_item_held {T : Addr} {f : Bool} {oT : Obj} {Q : Value → Shared → Prop} (S : ZipSep2 z TI TO i1 i2 fp1 fp2) (D1 : Draws prog w A i1 fp1 n1 P1 St1) (D2 : Draws prog w A i2 fp2 n2 P2 St2)
    (hz : IsZipHeld s.heap z TI TO T f) (hT : s.heap.get? T = some oT) (hTI : IsTupOf2 s.heap TI (.ref i1) (.ref i2)) (st1 : St1 i s.heap) (st2 : St2 i s.heap) (hlt1 : i < n1) (hlt2 : i < n2)
    (hQ : ∀ x1 x2 h' tk, P1 i x1 → P2 i x2 → IsZipHeld h' z TI TO T true → St1 (i + 1) h' → St2 (i + 1) h' → IsTupOf2 h' s.heap.objs.size x1 x2 → h'.objs.size = s.heap.objs.size + 1 →
      (∀ c o, c ≠ z → c ≠ i1 → c ≠ i2 → s.heap.get? c = some o → h'.get? c = some o) → Q (.ref s.heap.objs.size) { s with heap := h', toks := tk }) :
    wpAny (model prog w) A (Builtin.«zip.__next__» ⟨[.ref z], []⟩) (fun fin s' => ∃ v, fin = .done (.ret v) ∧ Q v s') E s := by
  show wpAny _ _ (field (.ref z) 2 >>= _) _ _ _
  refine wpAny_bind (wpAny_field hz rfl (x := .bool false) rfl ?_)
  show wpAny _ _ (field (.ref z) 3 >>= _) _ _ _
  refine wpAny_bind (wpAny_field hz rfl (x := .ref TI) rfl ?_)
  refine wpAny_bind (wpAny_seqItems hTI rfl ?_)
  show wpAny _ _ (Builtin.SmallTypes.ownedTupleIsFree (.ref z) >>= _) _ _ _
  refine wpAny_bind (wpAny_tupleHeld_zip hz hT fun h₁ hz₁ hs₁ => ?_)
  simp only [Bool.false_eq_true, if_false]
  refine wpAny_bind ?_
  rw [← Array.forIn_toList]
  simp only [List.forIn_cons, List.forIn_nil]
  refine wpAny_bind (wpAny_bind (wpAny_holding ?_))
  show wpAny _ _ (Builtin.SmallTypes.nextOf (.ref i1) >>= _) _ _ _
  refine wpAny_bind (D1.item i _ _ _ hlt1 (D1.over st1 hs₁ S.zf1) fun x1 h₂ tk₁ p1 h1₂ hs₂ => wpAny_pure ?_)
  refine wpAny_pure ?_
  refine wpAny_bind (wpAny_bind (wpAny_holding ?_))
  show wpAny _ _ (Builtin.SmallTypes.nextOf (.ref i2) >>= _) _ _ _
  refine wpAny_bind (D2.item i _ _ _ hlt2 (D2.over (D2.over st2 hs₁ S.zf2) hs₂ S.sep1_2) fun x2 h₃ tk₂ p2 h2₃ hs₃ => wpAny_pure ?_)
  refine wpAny_pure (wpAny_pure ?_)
  show wpAny _ _ (newTuple [x1, x2] >>= _) _ _ _
  refine wpAny_bind (wpAny_newTuple ?_)
  have hsz : h₃.objs.size = s.heap.objs.size := by rw [hs₃.1, hs₂.1, hs₁.1]
  have hz₃ : IsZipHeld h₃ z TI TO T true := hs₃.extBut _ _ S.zi2 (hs₂.extBut _ _ S.zi1 hz₁)
  have hk : ∀ c o, c ≠ z → c ≠ i1 → c ≠ i2 → s.heap.get? c = some o → h₃.get? c = some o := fun c o c1 c2 c3 e => hs₃.extBut _ _ c3 (hs₂.extBut _ _ c2 (hs₁.extBut _ _ c1 e))
  have h1₃ : St1 (i + 1) h₃ := D1.over h1₂ hs₃ S.sep2_1
  refine wpAny_pure ⟨_, rfl, ?_⟩
  show Q (.ref h₃.objs.size) _
  have hp : IsTupOf2 (h₃.push { cls := .type "tuple", data := .seq #[x1, x2] }) h₃.objs.size x1 x2 := Heap.get?_push_size _ rfl
  have hz4 : (h₃.push { cls := .type "tuple", data := .seq #[x1, x2] }).objs.size = h₃.objs.size + 1 := Heap.size_push ..
  rw [hsz] at hp hz4 ⊢
  exact hQ x1 x2 _ tk₂ p1 p2 (Heap.get?_push_of_some _ hz₃) (D1.frame _ _ _ h1₃ fun b _ o e => Heap.get?_push_of_some _ e) (D2.frame _ _ _ h2₃ fun b _ o e => Heap.get?_push_of_some _ e) hp hz4 fun c o c1 c2 c3 e => Heap.get?_push_of_some _ (hk c o c1 c2 c3 e)
theorem zipD2_end_held {T : Addr} {f : Bool} {oT : Obj} {Q : Fin → Shared → Prop} (S : ZipSep2 z TI TO i1 i2 fp1 fp2) (D1 : Draws prog w A i1 fp1 n1 P1 St1) (D2 : Draws prog w A i2 fp2 n1 P2 St2)
    (hz : IsZipHeld s.heap z TI TO T f) (hT : s.heap.get? T = some oT) (hTI : IsTupOf2 s.heap TI (.ref i1) (.ref i2)) (st1 : St1 n1 s.heap)
    (hE : ∀ h' e, (∀ c o, c ≠ z → c ≠ i1 → c ≠ i2 → s.heap.get? c = some o → h'.get? c = some o) → (∃ o, h'.get? e = some o ∧ o.cls = .type "StopIteration") → E (.ref e) { s with heap := h' }) :
    wpAny (model prog w) A (Builtin.«zip.__next__» ⟨[.ref z], []⟩) Q E s := by
  show wpAny _ _ (field (.ref z) 2 >>= _) _ _ _
  refine wpAny_bind (wpAny_field hz rfl (x := .bool false) rfl ?_)
  show wpAny _ _ (field (.ref z) 3 >>= _) _ _ _
  refine wpAny_bind (wpAny_field hz rfl (x := .ref TI) rfl ?_)
  refine wpAny_bind (wpAny_seqItems hTI rfl ?_)
  show wpAny _ _ (Builtin.SmallTypes.ownedTupleIsFree (.ref z) >>= _) _ _ _
  refine wpAny_bind (wpAny_tupleHeld_zip hz hT fun h₁ hz₁ hs₁ => ?_)
  simp only [Bool.false_eq_true, if_false]
  refine wpAny_bind ?_
  rw [← Array.forIn_toList]
  simp only [List.forIn_cons, List.forIn_nil]
  refine wpAny_bind (wpAny_bind (wpAny_holding ?_))
  show wpAny _ _ (Builtin.SmallTypes.nextOf (.ref i1) >>= _) _ _ _
  refine wpAny_bind (D1.done _ _ _ (D1.over st1 hs₁ S.zf1) fun h₂ e hs₂ he => ?_)
  exact hE h₂ e (fun c o c1 c2 _ x => hs₂ _ _ c2 (hs₁.extBut _ _ c1 x)) he
theorem pyNext_zipD2_item_held {T : Addr} {f : Bool} {oT : Obj} {Q : Option Value → Shared → Prop} (S : ZipSep2 z TI TO i1 i2 fp1 fp2) (D1 : Draws prog w A.in1 i1 fp1 n1 P1 St1) (D2 : Draws prog w A.in1 i2 fp2 n2 P2 St2)
    (hz : IsZipHeld s.heap z TI TO T f) (hT : s.heap.get? T = some oT) (hTI : IsTupOf2 s.heap TI (.ref i1) (.ref i2)) (st1 : St1 i s.heap) (st2 : St2 i s.heap) (hlt1 : i < n1) (hlt2 : i < n2)
    (hQ : ∀ x1 x2 h' tk, P1 i x1 → P2 i x2 → IsZipHeld h' z TI TO T true → St1 (i + 1) h' → St2 (i + 1) h' → IsTupOf2 h' s.heap.objs.size x1 x2 → h'.objs.size = s.heap.objs.size + 1 →
      (∀ c o, c ≠ z → c ≠ i1 → c ≠ i2 → s.heap.get? c = some o → h'.get? c = some o) → Q (some (.ref s.heap.objs.size)) { s with heap := h', toks := tk }) :
    wpAny (model prog w) A (pyNext (.ref z)) Q E s := by
  have hTy : s.TypeIs (.ref z) "zip" := ⟨_, hz, rfl⟩
  unfold pyNext
  exact wpAny_bind (wpAny_attempt (wpAny_callSpecial?_slot (name := Str.ofString "__next__") hTy F.slot_zip_next
    (wpAny_call_entry F.slot_zip_next hTy F.entry_zip_next
      (zipD2_item_held S D1 D2 hz hT hTI st1 st2 hlt1 hlt2 fun x1 x2 h' tk y1 y2 a1 a3 a4 a5 a6 a7 => wpAny_pure (hQ x1 x2 h' tk y1 y2 a1 a3 a4 a5 a6 a7)) (F.args_zip_next_1 _))))
theorem pyNext_zipD2_end_held {T : Addr} {f : Bool} {oT : Obj} {Q : Option Value → Shared → Prop} (S : ZipSep2 z TI TO i1 i2 fp1 fp2) (D1 : Draws prog w A.in1 i1 fp1 n1 P1 St1) (D2 : Draws prog w A.in1 i2 fp2 n1 P2 St2)
    (hz : IsZipHeld s.heap z TI TO T f) (hT : s.heap.get? T = some oT) (hTI : IsTupOf2 s.heap TI (.ref i1) (.ref i2)) (st1 : St1 n1 s.heap)
    (hQ : ∀ h', (∀ c o, c ≠ z → c ≠ i1 → c ≠ i2 → s.heap.get? c = some o → h'.get? c = some o) → Q none { s with heap := h' }) : wpAny (model prog w) A (pyNext (.ref z)) Q E s := by
  have hTy : s.TypeIs (.ref z) "zip" := ⟨_, hz, rfl⟩
  unfold pyNext
  refine wpAny_bind (wpAny_attempt (wpAny_callSpecial?_slot (name := Str.ofString "__next__") hTy F.slot_zip_next
    (wpAny_call_entry F.slot_zip_next hTy F.entry_zip_next (zipD2_end_held S D1 D2 hz hT hTI st1 fun h' e hk he => ?_) (F.args_zip_next_1 _))))
  obtain ⟨o, ho, hc⟩ := he
  refine wpAny_bind (wpAny_isInstance (T := "StopIteration") (b := true) ⟨o, ho, hc⟩ isSubtype_stop ?_)
  exact wpAny_pure (hQ _ hk)
theorem pairArg_zipD2 (S : ZipSep2 z TI TO i1 i2 fp1 fp2) (D1 : ∀ A : Around, A.handled = none → Draws prog w A i1 fp1 n1 P1 St1) (D2 : ∀ A : Around, A.handled = none → Draws prog w A i2 fp2 n1 P2 St2) :
    PairArg prog w "zip" z (z :: TI :: TO :: (fp1 ++ fp2)) [z, TO, i1, i2] n1 (fun i k v => P1 i k ∧ P2 i v)
      (fun h => IsZip h z TI TO .none ∧ IsTupOf2 h TI (.ref i1) (.ref i2) ∧ (∃ a b, IsTupOf2 h TO a b) ∧ St1 0 h ∧ St2 0 h ∧ ∀ b ∈ fp1 ++ fp2, ∃ o, h.get? b = some o) where
  type := fun s ok => ⟨_, ok.1, rfl⟩
  notDict := by decide
  keep := fun h h' ok hk => by
    obtain ⟨hz, hTI, ⟨a, b, hTO⟩, h1, h2, ex⟩ := ok
    exact ⟨hk _ _ hz, hk _ _ hTI, ⟨a, b, hk _ _ hTO⟩, (D1 callerA rfl).frame _ _ _ h1 fun b _ o e => hk b o e, (D2 callerA rfl).frame _ _ _ h2 fun b _ o e => hk b o e, fun b hb => let ⟨o, e⟩ := ex b hb; ⟨o, hk _ _ e⟩⟩
  there := fun h ok b hb => by
    obtain ⟨hz, hTI, ⟨a, c, hTO⟩, _, _, ex⟩ := ok
    rcases List.mem_cons.mp hb with rfl | hb
    · exact ⟨_, hz⟩
    rcases List.mem_cons.mp hb with rfl | hb
    · exact ⟨_, hTI⟩
    rcases List.mem_cons.mp hb with rfl | hb
    · exact ⟨_, hTO⟩
    exact ex b hb
  sub := fun b hb => by
    have e : b = z ∨ b = TO ∨ b = i1 ∨ b = i2 := by simpa using hb
    rcases e with rfl | rfl | rfl | rfl
    · simp
    · simp
    · have := S.mem1; simp [this]
    · have := S.mem2; simp [this]
  noKeys := fun A s Q E hA ok h => getAttrOr_miss_zip ok.1 rfl rfl rfl zip_no_keys (by decide +kernel) hA h
  iter := fun A s d Q E hA ok hd hdf h => by
    obtain ⟨hz, hTI, ⟨a, b, hTO⟩, h1, h2, _⟩ := ok
    have dz : d ≠ z := fun e => hdf (by simp [e])
    have dTI : d ≠ TI := fun e => hdf (by simp [e])
    have dTO : d ≠ TO := fun e => hdf (by simp [e])
    have df1 : ∀ b ∈ fp1, b ≠ d := fun b hb e => hdf (by subst e; simp [hb])
    have df2 : ∀ b ∈ fp2, b ≠ d := fun b hb e => hdf (by subst e; simp [hb])
    have dI1 := (df1 _ S.mem1).symm
    have dI2 := (df2 _ S.mem2).symm
    refine wpAny_pyIter_zip hz (h z [z, TO, i1, i2] (fun i h => IsTupOf2 h TI (.ref i1) (.ref i2) ∧ St1 i h ∧ St2 i h ∧
      ((IsZip h z TI TO .none ∧ ∃ a b, IsTupOf2 h TO a b) ∨ ∃ T f oT, IsZipHeld h z TI TO T f ∧ h.get? T = some oT ∧ T ≠ z ∧ T ≠ i1 ∧ T ≠ i2 ∧ T ≠ d)) s.heap s.toks ?_
      ⟨hTI, h1, h2, .inl ⟨hz, a, b, hTO⟩⟩ (fun _ _ e => e) fun b hb => .inl hb)
    exact {
      off := fun hm => by
        have e : d = z ∨ d = TO ∨ d = i1 ∨ d = i2 := by simpa using hm
        rcases e with e | e | e | e
        · exact dz e
        · exact dTO e
        · exact dI1 e
        · exact dI2 e
      frame := fun i h₁ h₂ st hk => by
        obtain ⟨hTI, h1, h2, hz⟩ := st
        refine ⟨hk _ _ (Ne.symm dTI) hTI, (D1 A hA).frame _ _ _ h1 fun b hb o e => hk b o (df1 b hb) e, (D2 A hA).frame _ _ _ h2 fun b hb o e => hk b o (df2 b hb) e, ?_⟩
        rcases hz with ⟨hz, a, b, hTO⟩ | ⟨T, f, oT, hz, hT, r1, r2, r3, r4⟩
        · exact .inl ⟨hk _ _ (Ne.symm dz) hz, a, b, hk _ _ (Ne.symm dTO) hTO⟩
        · exact .inr ⟨T, f, oT, hk _ _ (Ne.symm dz) hz, hk _ _ r4 hT, r1, r2, r3, r4⟩
      item := fun i s₁ Q₁ E₁ hi st hds hQ => by
        obtain ⟨hTI, h1, h2, hz⟩ := st
        have lt : ∀ {c o}, s₁.heap.get? c = some o → s₁.heap.objs.size ≠ c := fun e => Nat.ne_of_gt (Heap.lt_size e)
        have n1' : s₁.heap.objs.size ≠ i1 := let ⟨_, e⟩ := (D1 A hA).live _ _ h1; lt e
        have n2' : s₁.heap.objs.size ≠ i2 := let ⟨_, e⟩ := (D2 A hA).live _ _ h2; lt e
        rcases hz with ⟨hz, a, b, hTO⟩ | ⟨T, f, oT, hz, hT, r1, r2, r3, r4⟩
        · refine wpAny_pyNext_zipD2_item S (D1 A.in1 hA) (D2 A.in1 hA) hz hTI hTO h1 h2 hi hi fun x1 x2 h' tk p1 p2 a1 a2 a3 a4 a5 a6 hk => ?_
          exact hQ s₁.heap.objs.size _ _ h' tk ⟨p1, p2⟩ (.inl ⟨_, a5, rfl, _, rfl⟩)
            ⟨hk _ _ S.TIz S.TITO S.TIi1 S.TIi2 hTI, a3, a4, .inr ⟨s₁.heap.objs.size, false, _, a1, a5, lt hz, n1', n2', Nat.ne_of_gt hds⟩⟩
            fun c o hc e => hk c o (fun x => hc (by simp [x])) (fun x => hc (by simp [x])) (fun x => hc (by simp [x])) (fun x => hc (by simp [x])) e
        · refine pyNext_zipD2_item_held S (D1 A.in1 hA) (D2 A.in1 hA) hz hT hTI h1 h2 hi hi fun x1 x2 h' tk p1 p2 a1 a3 a4 a5 a6 hk => ?_
          exact hQ s₁.heap.objs.size _ _ h' tk ⟨p1, p2⟩ (.inl ⟨_, a5, rfl, _, rfl⟩)
            ⟨hk _ _ S.TIz S.TIi1 S.TIi2 hTI, a3, a4, .inr ⟨T, true, oT, a1, hk _ _ r1 r2 r3 hT, r1, r2, r3, r4⟩⟩
            fun c o hc e => hk c o (fun x => hc (by simp [x])) (fun x => hc (by simp [x])) (fun x => hc (by simp [x])) e
      done := fun s₁ Q₁ E₁ st hQ => by
        obtain ⟨hTI, h1, h2, hz⟩ := st
        rcases hz with ⟨hz, a, b, hTO⟩ | ⟨T, f, oT, hz, hT, r1, r2, r3, r4⟩
        · exact wpAny_pyNext_zipD2_end S (D1 A.in1 hA) (D2 A.in1 hA) hz hTI hTO h1 h2 (Nat.le_refl _) (Nat.le_refl _) (.inl rfl) fun h' tk hk => hQ h' tk
            fun c o hc e => hk c o (fun x => hc (by simp [x])) (fun x => hc (by simp [x])) (fun x => hc (by simp [x])) (fun x => hc (by simp [x])) e
        · exact pyNext_zipD2_end_held S (D1 A.in1 hA) (D2 A.in1 hA) hz hT hTI h1 fun h' hk => hQ h' s₁.toks
            fun c o hc e => hk c o (fun x => hc (by simp [x])) (fun x => hc (by simp [x])) (fun x => hc (by simp [x])) e }
end
theorem zip_map_get {α β γ : Type} (f : α → β → γ) : ∀ (l : List α) (m : List β) (i : Nat), ((l.zip m).map fun p => f p.1 p.2)[i]? = (l[i]?.bind fun a => m[i]?.map fun b => f a b)
  | [], _, i => by simp
  | a :: l, [], i => by cases h : (a :: l)[i]? <;> simp
  | a :: l, b :: m, 0 => rfl
  | a :: l, b :: m, i + 1 => by simpa using zip_map_get f l m i
theorem paired_zip {l : List Nat} : ∀ {ys : List V} {its : List Value}, Vals ys its → KV ((l.zip ys).map fun p => (tk [p.1], p.2)) ((l.zip its).map fun p => (tk [p.1], p.2)) := by
  induction l with
  | nil => intro ys its _; exact .nil
  | cons c l ih =>
    intro ys its r
    cases r with
    | nil => exact .nil
    | cons h t => exact .cons ⟨rfl, h⟩ (ih t)
def tDictZip (K : PySem.W.Frag) (ta : TA) : TE := fun σ H Q => ta σ H fun vs H1 => ∃ (l : List Nat) (b : Addr) (ys : List V), vs = [.str (S l), .ref b] ∧ SqT K H1 b ys ∧ ys.length = l.length ∧ l.length ≤ 1000 ∧
  ∀ p, H1 p = none → Q (.ref p) (upd H1 p (.dK (mergeK [] ((l.zip ys).map fun p => (tk [p.1], p.2)))))
theorem pe_dictZip {X : Cx} {e e2 : Expr} {ta : TA} {p p2 pos pos2 : Pos} (hc : X.calm = true) (hgd : Gl X "dict") (hmd : X.mg "dict" = none) (hg : Gl X "zip") (hm : X.mg "zip" = none) (ha : PA X [e, e2] ta)
    (hs : starEach [e, e2] X.env = (false, eval e X.env) :: starEach [e2] X.env := by rfl) (hpl : (backTo pos2 (starEach [e2] X.env)).any (·.1) = false := by rfl)
    (hs' : starEach [.Call (.Name "zip" p2) [e, e2] [] pos2] X.env = (false, eval (.Call (.Name "zip" p2) [e, e2] [] pos2) X.env) :: starEach [] X.env := by rfl) (hpl' : (backTo pos (starEach [] X.env)).any (·.1) = false := by rfl) :
    PE X (.Call (.Name "dict" p) [.Call (.Name "zip" p2) [e, e2] [] pos2] [] pos) (tDictZip X.K ta) := by
  refine ⟨fun pins s σ H Q I h => ?_⟩
  refine Call_ (ld_blt I hgd hmd PyProof.Rows.boot_dict (PyProof.Rows.callWith_type1 (Q := EP X pins σ Q) ?_ hs' hpl'))
  rw [hs']
  refine PySem.Calls.spliced_cons ?_
  refine Call_ (ld_blt I hg hm PyProof.Rows.boot_zip (PyProof.Rows.callWith_type1 (thn (ha.run pos2 pins s σ H _ I h) fun us s1 ⟨vs, H1, I1, r1, q1⟩ => ?_) hs hpl))
  obtain ⟨l, b, ys, ex, hb, hl, hz, q⟩ := q1
  subst ex
  obtain ⟨u, u', rfl, r, r'⟩ := vals2 r1
  obtain ⟨t, rfl⟩ := (show ∃ t, u = Value.str (S l) t from r)
  obtain rfl : u' = Value.ref b := r'
  obtain ⟨its, rv, ht, _⟩ := I1.tuple hb
  have hlen : its.toArray.size = (S l).cps.size := by rw [List.size_toArray, ← rv.length, hl]; simp [S]
  have hbl : b < s1.heap.objs.size := ht.lt
  refine zip_begins2 (begins_text (S l) t) (begins_tuple b its.toArray) trivial ht fun h' hz' hTI hTO h1 h2 hsz hk => ?_
  refine PySem.Calls.spliced_nil ?_
  have I2 : Inv X pins σ H1 { s1 with heap := h' } := I1.kept (t' := s1.toks) hk
  have f2 : ∀ a ∈ [b], a < s1.heap.objs.size := fun a h => by rw [List.mem_singleton.mp h]; exact hbl
  have S2 := PySem.zip_sep2 (N := s1.heap.objs.size) (fp1 := []) (fp2 := [b]) (fun _ h => nomatch h) f2
  have P := pairArg_zipD2 (prog := X.prog) (w := X.w) S2 (fun A hh => Draws.text hh s1.heap.objs.size (S l) t)
    (fun A hh => hlen ▸ Draws.tuple hh (s1.heap.objs.size + 1) b (Nat.ne_of_lt (Nat.lt_succ_of_lt hbl)) its.toArray)
  have ht2 : h'.IsTuple b its.toArray := (show s1.heap.IsTuple b its.toArray from ht).at fun o e => hk _ _ e
  have hn : H1 h'.objs.size = none := I2.hok.fresh (Nat.le_refl _)
  have hl2 : its.length = l.length := by rw [← rv.length, hl]
  refine PySem.call_dict_pairs (knd := mixKind X.prog X.w) (kvs := (l.zip its).map fun p => (tk [p.1], p.2)) P (I1.ok.hd hc) ?_ ⟨?_, ?_⟩ ?_ fun h3 tk3 hd3 hk3 => ?_
  · refine ⟨hz', hTI, ⟨_, _, hTO⟩, ⟨_, h1, rfl, rfl⟩, ⟨⟨_, h2, rfl, rfl⟩, ht2⟩, fun a ha => ?_⟩
    have e : a = s1.heap.objs.size ∨ a = s1.heap.objs.size + 1 ∨ a = b := by simpa using ha
    rcases e with rfl | rfl | rfl
    · exact ⟨_, h1⟩
    · exact ⟨_, h2⟩
    · obtain ⟨o, e, _⟩ := ht2; exact ⟨o, e⟩
  · rw [List.length_map, List.length_zip, hl2, Nat.min_self]; simp [S]
  · rintro i key v ⟨⟨c, u, hc', rfl⟩, hv⟩
    have hc2 : l[i]? = some c := by simpa [S] using hc'
    have hv2 : its[i]? = some v := by simpa using hv
    refine ⟨tk [c], ?_, kV_is (P := X.prog) (w := X.w) (k := tk [c]) ⟨u, rfl⟩⟩
    rw [zip_map_get (fun a b => (tk [a], b)), hc2, hv2]; rfl
  · simp [S]; exact Nat.le_trans hz (by decide)
  · have kvr : KV ((l.zip ys).map fun p => (tk [p.1], p.2)) ((l.zip its).map fun p => (tk [p.1], p.2)) := paired_zip rv
    have hm' : (h'.objs.size == sysModules) = false := beq_eq_false_iff_ne.mpr (Nat.ne_of_gt I2.big)
    have hlen2 : (mergeK [] ((l.zip ys).map fun p => (tk [p.1], p.2))).length ≤ sizeLine := by
      refine Nat.le_trans (length_mergeK _ []) ?_
      rw [List.length_nil, Nat.zero_add, List.length_map, List.length_zip, hl, Nat.min_self]
      exact Nat.le_trans hz (by decide)
    have keep3 : ∀ c o, s1.heap.get? c = some o → h3.get? c = some o := fun c o e => hk3 c o (fun hm => by
      have hlt : c < s1.heap.objs.size := Heap.lt_size e
      have e' : c = s1.heap.objs.size + 4 ∨ c = s1.heap.objs.size + 3 ∨ c = s1.heap.objs.size ∨ c = s1.heap.objs.size + 1 := by simpa using hm
      have hle : s1.heap.objs.size ≤ c := by
        rcases e' with z | z | z | z
        · rw [z]; exact Nat.le_add_right _ _
        · rw [z]; exact Nat.le_add_right _ _
        · rw [z]; exact Nat.le_refl _
        · rw [z]; exact Nat.le_add_right _ _
      exact Nat.lt_irrefl _ (Nat.lt_of_lt_of_le hlt hle)) (hk _ _ e)
    have hsz5 : s1.heap.objs.size ≤ h'.objs.size := by rw [hsz]; omega
    exact ⟨.ref h'.objs.size, upd H1 h'.objs.size (.dK (mergeK [] ((l.zip ys).map fun p => (tk [p.1], p.2)))), I1.laid (t' := tk3) keep3 hsz5 (show ObjOk X.prog X.w _ _ _ (.dK _) from ⟨hlen2, hm', merged [] _, KV.merge kvr .nil, hd3⟩), rfl, q _ hn⟩
end LX
set_option maxHeartbeats 2000000
namespace LX
open PySem PySem.Spec PyProof.Rows L2 C8 SX
theorem meets_enum1 {v : Value} {o : Obj} {H : Heap → Prop} (B : Begins v o H) :
    Meets (Builtin.«enumerate.__new__» ⟨[.type "enumerate", v], []⟩) (fun _ R s => H s.heap ∧
      R (.ok (.ret (.ref (s.heap.push o).objs.size))) { s with heap := (s.heap.push o).push { cls := .type "enumerate", data := .fields #[.none, .bool false, .ref s.heap.objs.size, rawInt 0, .none, .none] } }) :=
  .of_wp fun prog w A R s h => by
    obtain ⟨hp, g, d, tk, os⟩ := s; obtain ⟨h1, h⟩ := h
    have hsub := sub_enumerate
    have q1 : ∀ {A' : Around} {E : Value → Shared → Prop} {Q : Value → Shared → Prop}, Q (.ref hp.objs.size) ⟨hp.push o, g, d, tk, os⟩ → wpAny (model prog w) A' (pyIter v) Q E ⟨hp, g, d, tk, os⟩ :=
      fun q => B.iter prog w _ _ ⟨hp, g, d, tk, os⟩ _ h1 q
    wp_walk using q1
    refine wpAny_stack_any fun st => wpAny_pure ?_
    split
    · rename_i c _ _ _ _ _
      cases (c == Value.type "enumerate")
      · wp_walk using q1
        exact ⟨_, rfl, h⟩
      · wp_walk using q1
        exact ⟨_, rfl, h⟩
    · wp_walk using q1
      exact ⟨_, rfl, h⟩
theorem enum1_begins {prog : Program} {w : World} {A : Around} {E : Value → Shared → Prop} {s : Shared} {v : Value} {o : Obj} {H : Heap → Prop} {Q : Value → Shared → Prop} (B : Begins v o H) (h1 : H s.heap)
    (h : ∀ h', IsEnum h' (s.heap.objs.size + 1) s.heap.objs.size 0 .none → h'.get? s.heap.objs.size = some o → h'.objs.size = s.heap.objs.size + 2 →
      (∀ b o, s.heap.get? b = some o → h'.get? b = some o) → Q (.ref (s.heap.objs.size + 1)) { s with heap := h' }) :
    wpAny (model prog w) A (call (.type "enumerate") [v]) Q E s := by
  refine callType_new F.called_enumerate (by decide) (F.typeCall_enumerate_1 _) (F.newCall_enumerate_1 _) (fun obj => F.args_object_init_2 obj _) F.entry_enumerate_new
    (meets_enum1 B) ⟨h1, ?_⟩
  have hz : (s.heap.push o).objs.size = s.heap.objs.size + 1 := Heap.size_push ..
  show _ ∧ _
  rw [hz]
  have he : IsEnum ((s.heap.push o).push { cls := .type "enumerate", data := .fields #[.none, .bool false, .ref s.heap.objs.size, rawInt 0, .none, .none] }) (s.heap.objs.size + 1) s.heap.objs.size 0 .none := by
    have := Heap.get?_push_size (s.heap.push o) (o := { cls := .type "enumerate", data := .fields #[.none, .bool false, .ref s.heap.objs.size, rawInt 0, .none, .none] }) rfl
    rw [hz] at this; exact this
  refine ⟨⟨_, he, rfl⟩, h _ he (Heap.get?_push_of_some _ (Heap.get?_push_size _ B.free)) (by rw [Heap.size_push, hz]) fun b o x => Heap.get?_push_of_some _ (Heap.get?_push_of_some _ x)⟩
def IteX (K : PySem.W.Frag) (S : Sr) : It :=
  ⟨fun i H => S.has K i H, fun i H v H' => ∃ T x, v = .ref T ∧ H T = none ∧ H' = upd H T (.tup [.int (i : Nat), x]) ∧ S.val K i H x, fun i H => S.upto K i H ∧ S.ends K i H⟩
theorem turn_enumX {P : Program} {w : World} {K : PySem.W.Frag} {elts : List Expr} {kk : Nat} {tpos : Pos} {e it : Addr} (S : Sr) (n1 : ∀ a ∈ S.fp, a ≠ it) (ne : e ≠ it) (nf : e ∉ S.fp) :
    Turn P w K (.Tuple elts kk tpos) (IteX K S) [e, it] e (fun i h => (∃ old, IsEnum h e it ((i : Nat) : Int) old) ∧ S.tn it i h) where
  mem := by simp
  obj := fun i h st b hb => by
    obtain ⟨⟨old, he⟩, h1⟩ := st
    have e' : b = e ∨ b = it := by simpa using hb
    rcases e' with z | z
    · rw [z]; exact ⟨_, he, fun v q => nomatch q⟩
    · rw [z]; exact Sr.tn_obj h1
  keep := fun i h h' st k => let ⟨⟨old, he⟩, h1⟩ := st; ⟨⟨old, k e (by simp) _ he⟩, Sr.tn_keep h1 fun o q => k it (by simp) o q⟩
  item := by
    intro X hP hw hK hc i pins s σ H E I hf st hg
    subst hP hw hK
    obtain ⟨⟨old, he⟩, h1⟩ := st
    obtain ⟨m1, ⟨P1, St1, D1, st1, v1, t1⟩, _, lt1, _⟩ := S.draws I n1 h1 (Sr.has_upto hg)
    have hel : e < s.heap.objs.size := Heap.lt_size he
    have hil : it < s.heap.objs.size := by obtain ⟨_, q, _⟩ := Sr.tn_obj h1; exact Heap.lt_size q
    refine wpAny_pyNext_enum_itemD (D1 _ (I.ok.hd hc)) he st1 (lt1 hg) ne (by simp [ne, nf]) fun u h' tk p1 ho st1' hT hsz hk => ?_
    obtain ⟨x, hx, rx⟩ := v1 u p1
    refine ⟨_, rfl, wpAny_letOwnedTupleGo_enum (s := { s with heap := h', toks := tk + 1 }) ho fun h'' he' sb => ?_⟩
    have hT2 : h''.get? s.heap.objs.size = some { cls := .type "tuple", data := .seq #[.int i tk, u] } := (sb.2 _ (Nat.ne_of_gt hel)).trans hT
    have new : ObjOk X.prog X.w (upd H s.heap.objs.size (.tup [.int (i : Nat), x])) h'' s.heap.objs.size (.tup [.int (i : Nat), x]) :=
      ⟨by show 2 ≤ sizeLine; decide, [.int i tk, u], .cons ⟨_, rfl⟩ (.cons rx .nil), ⟨_, hT2, rfl, _, rfl⟩⟩
    have I1 : Inv X pins σ (upd H s.heap.objs.size (.tup [.int (i : Nat), x])) { s with heap := h'', toks := tk + 1 } :=
      I.turnedNew (ch := [e, it]) (fun b ob hb q => (sb.2 b (fun z => hb (by simp [z]))).trans (hk b ob (fun z => hb (by simp [z])) (fun z => hb (by simp [z])) q)) hf (Nat.le_refl _) new
    refine ⟨.ref s.heap.objs.size, _, I1, rfl, ⟨_, x, rfl, I.hok.fresh (Nat.le_refl _), rfl, hx⟩, ⟨⟨u, ?_⟩, Sr.tn_keep (t1 _ _ st1') fun o q => (sb.2 it (Ne.symm ne)).trans q⟩, fun b hb => ?_⟩
    · have e1 : ((i + 1 : Nat) : Int) = (i : Int) + 1 := by omega
      rw [e1]; exact he'
    · have hb' : b < s.heap.objs.size := by
        have e' : b = e ∨ b = it := by simpa using hb
        rcases e' with z | z
        · rw [z]; exact hel
        · rw [z]; exact hil
      rw [upd_ne (Nat.ne_of_lt hb')]
      exact (hf b hb).1
  done := by
    intro X hP hw hK hc i pins s σ H E I hf st hg
    subst hP hw hK
    obtain ⟨⟨old, he⟩, h1⟩ := st
    obtain ⟨g1, ge⟩ := hg
    obtain ⟨m1, ⟨P1, St1, D1, st1, v1, t1⟩, _, _, eq1⟩ := S.draws I n1 h1 g1
    obtain ⟨f0, f1, f2, f3, f4, f5⟩ := hf it (by simp)
    have e1 := eq1 ge
    subst e1
    exact wpAny_pyNext_enum_endD (D1 _ (I.ok.hd hc)) he st1 fun h' eb => ⟨rfl, I.turned (t' := s.toks) (fun b o hb q => eb b o hb q) f0 f1 f3 f4 f5⟩
  self := fun A i s Q E st h => let ⟨⟨_, he⟩, _⟩ := st; wpAny_pyIter_enum he h
def iEnumX (K : PySem.W.Frag) (ta : TA) : TI := fun σ H R => ta σ H fun vs H1 => ∃ (x : V) (S : Sr), vs = [x] ∧ S.of x ∧ S.there K H1 ∧ R (IteX K S) H1
theorem pi_enumX {X : Cx} {e : Expr} {ta : TA} {p pos tpos : Pos} {elts : List Expr} {kk : Nat} (hg : Gl X "enumerate") (hm : X.mg "enumerate" = none) (ha : PA X [e] ta) (hs : starEach [e] X.env = [(false, eval e X.env)] := by rfl) :
    PI X (.Tuple elts kk tpos) (.Call (.Name "enumerate" p) [e] [] pos) (iEnumX X.K ta) := by
  refine ⟨fun pins s σ H R I h => ?_⟩
  refine Call_ (ld_blt I hg hm PyProof.Rows.boot_enumerate (PyProof.Rows.callWith_type1 (thn (ha.run pos pins s σ H _ I h) fun us s1 ⟨vs, H1, I1, r1, q1⟩ => ?_) hs rfl))
  obtain ⟨x, S, ex, e1, th1, q⟩ := q1
  subst ex
  obtain ⟨u, rfl, r⟩ := vals1 r1
  obtain ⟨o1, HH1, B1, b1, f1, t1⟩ := Sr.begins I1 r e1 th1
  refine enum1_begins B1 b1 fun h' he hit hsz hk => wpAny_pyIter_enum he ?_
  have I2 : Inv X pins σ H1 { s1 with heap := h' } := I1.kept (t' := s1.toks) hk
  refine ⟨s1.heap.objs.size + 1, [s1.heap.objs.size + 1, s1.heap.objs.size], _, _, H1, rfl, I2, turn_enumX S (fun a ha => Nat.ne_of_lt (f1 a ha)) (Nat.succ_ne_self _) (fun hm => Nat.not_lt.mpr (Nat.le_add_right _ _) (f1 _ hm)), ⟨⟨.none, he⟩, t1 _ _ hit⟩, fun b hb => ?_, q⟩
  have e' : b = s1.heap.objs.size + 1 ∨ b = s1.heap.objs.size := by simpa using hb
  have hle : s1.heap.objs.size ≤ b := by
    rcases e' with z | z
    · rw [z]; exact Nat.le_add_right _ _
    · rw [z]; exact Nat.le_refl _
  exact I1.fpOk hle (I1.hok.fresh hle)
theorem walk_enumX {K : PySem.W.Frag} {S : Sr} {xs : List V} : Walk (IteX K S) xs.length (fun H => S.is K H xs) (YPair (fun i => some (.int (i : Nat))) (fun i => xs[i]?)) := by
  refine ⟨fun i H hi q => Sr.is_has hi q, fun H q => ⟨Sr.is_upto (Nat.le_refl _) q, Sr.is_ends rfl q⟩, fun i H v H' _ q y => ?_⟩
  obtain ⟨T, x, h1, h2, h3, h4⟩ := y
  exact ⟨T, .int (i : Nat), x, h1, h2, h3, rfl, Sr.is_val q h4⟩
theorem dc_keep {Rel : Hp → Hp → Prop} {J : It} {n : Nat} {G : Hp → Prop} {Y : Nat → Hp → V → Hp → Prop} {H1 : Hp} (kp : Keep Rel H1) (w : Walk J n G Y) {g : TG} {ka te : TE} {vs : List Nat} {σ : L2.St} {D : Addr} {Qd : Hp → Prop} (hD : H1 D = none) (hn : n < sizeLine)
    (key : Nat → Key) (Good : Nat → V → Hp → Prop) (hG : ∀ H, Rel H1 H → G H) (inj : ∀ i j, i < n → j < i → key j ≠ key i)
    (st : ∀ i y H H', Rel H1 H → Rel H H' → Good i y H → Good i y H') (pt : ∀ i y H acc o, Rel H1 H → H D = some (.dK acc) → Good i y H → Good i y (upd H D o))
    (hs : ∀ i x H H' acc (R : V → V → Hp → Prop), i < n → Rel H1 H → H D = some (.dK acc) → Y i H x H' → (∀ y H4, Rel H H4 → Good i y H4 → R (kV (key i)) y H4) → g x (wipe σ vs) H' fun σ2 H2 => wipe σ2 vs = wipe σ vs ∧ ka σ2 H2 fun k H3 => te σ2 H3 fun z H4 => R k z H4)
    (hd : ∀ ys H, ys.length = n → (∀ (j : Nat) y, ys[j]? = some y → Good j y H) → Rel H1 H → H D = some (.dK ((List.range n).zip ys |>.map fun p => (key p.1, p.2))) → Qd H) :
    ∃ W : Nat → Nat → Hp → Prop, (∃ m, W 0 m (upd H1 D (.dK []))) ∧ ∀ i m H, W i m H →
      (J.stop i H ∧ Qd H) ∨ (J.go i H ∧ ∃ Nx : Hp → Prop, (∀ H', Nx H' → ∃ m', m' < m ∧ W (i + 1) m' H') ∧ ∀ x H', J.yld i H x H' → g x (wipe σ vs) H' fun σ2 H2 => wipe σ2 vs = wipe σ vs ∧ tYes σ2 H2 fun b H3 =>
        if b = true then ka σ2 H3 fun y H4 => te σ2 H4 fun z H5 => ∃ kvs k, y = kV k ∧ H5 D = some (.dK kvs) ∧ kvs.length < sizeLine ∧ Nx (upd H5 D (.dK (putK kvs k z))) else Nx H3) := by
  refine ⟨fun i m H => m = n - i ∧ i ≤ n ∧ ∃ ys : List V, ys.length = i ∧ H D = some (.dK ((List.range i).zip ys |>.map fun p => (key p.1, p.2))) ∧ Rel H1 H ∧ ∀ (j : Nat) y, ys[j]? = some y → Good j y H, ⟨n, by omega, Nat.zero_le _, [], rfl, upd_same, kp.put _ _ _ kp.refl hD, fun j y e => by simp at e⟩, ?_⟩
  rintro i m H ⟨rfl, hi, ys, hl, hDa, r, hg⟩
  rcases Nat.lt_or_ge i n with h | h
  · refine .inr ⟨w.goes i H h (hG H r), fun H' => ∃ ys : List V, ys.length = i + 1 ∧ H' D = some (.dK ((List.range (i + 1)).zip ys |>.map fun p => (key p.1, p.2))) ∧ Rel H1 H' ∧ ∀ (j : Nat) y, ys[j]? = some y → Good j y H', fun H' h' => ⟨n - (i + 1), by omega, rfl, h, h'⟩, fun x H' hy => ?_⟩
    have key2 : ∀ (z : V) H5, Rel H H5 → Good i z H5 → ∃ kvs k, kV (key i) = kV k ∧ H5 D = some (.dK kvs) ∧ kvs.length < sizeLine ∧ ∃ ys : List V, ys.length = i + 1 ∧ (upd H5 D (.dK (putK kvs k z))) D = some (.dK ((List.range (i + 1)).zip ys |>.map fun p => (key p.1, p.2))) ∧ Rel H1 (upd H5 D (.dK (putK kvs k z))) ∧ ∀ (j : Nat) y, ys[j]? = some y → Good j y (upd H5 D (.dK (putK kvs k z))) := fun z H5 r5 gz => by
      have hD5 := kp.get _ _ _ _ r5 hD r hDa
      have r6 := kp.trans _ _ r r5
      refine ⟨_, key i, rfl, hD5, by rw [List.length_map, List.length_zip, List.length_range, hl]; omega, ys ++ [z], by simp [hl], ?_, kp.put _ _ _ r6 hD, fun j y e => ?_⟩
      · rw [upd_same]
        congr 2
        rw [putK_new _ (valV_none fun p hp => ?_), List.range_succ, List.zip_append (by rw [List.length_range, hl])]
        · simp
        · obtain ⟨q, hq, rfl⟩ := List.mem_map.mp hp
          have : q.1 < i := List.mem_range.mp (List.of_mem_zip hq).1
          exact inj i q.1 h this
      · rcases Nat.lt_or_ge j ys.length with h | h
        · rw [List.getElem?_append_left h] at e
          exact pt _ _ _ _ _ r6 hD5 (st _ _ _ _ r r5 (hg j y e))
        · rw [List.getElem?_append_right h] at e
          have hj : j - ys.length = 0 := by
            rcases Nat.lt_or_ge (j - ys.length) 1 with z | z
            · omega
            · rw [List.getElem?_eq_none (by simpa using z)] at e; cases e
          rw [hj] at e
          have : z = y := Option.some.inj e
          subst this
          have : j = i := by omega
          subst this
          exact pt _ _ _ _ _ r6 hD5 gz
    exact hs i x H H' _ (fun k z H5 => ∃ kvs k', k = kV k' ∧ H5 D = some (.dK kvs) ∧ kvs.length < sizeLine ∧ ∃ ys : List V, ys.length = i + 1 ∧ (upd H5 D (.dK (putK kvs k' z))) D = some (.dK ((List.range (i + 1)).zip ys |>.map fun p => (key p.1, p.2))) ∧ Rel H1 (upd H5 D (.dK (putK kvs k' z))) ∧ ∀ (j : Nat) y, ys[j]? = some y → Good j y (upd H5 D (.dK (putK kvs k' z)))) h r hDa (w.yields i H x H' h (hG H r) hy) fun y H4 r4 gy => key2 y H4 r4 gy
  · have : i = n := by omega
    subst this
    exact .inl ⟨w.stops H (hG H r), hd ys H hl hg r hDa⟩
end LX
set_option maxHeartbeats 4000000
namespace LX
open PySem PySem.Spec PyProof.Rows L2 C8 SX
theorem inK {X : Cx} (K : PySem.W.Frag) (h : X.K = K := by rfl) : OpR X (compareOp .In) (rIn K false) := by subst h; exact op_in_seq
theorem notInK {X : Cx} (K : PySem.W.Frag) (h : X.K = K := by rfl) : OpR X (compareOp .NotIn) (rIn K true) := by subst h; exact op_notIn_seq
section
variable {prog : Program} {w : World} {A : Around} {R : Result → Shared → Prop} {I S : Addr} {fp wr : List Addr} {G : Array GenState → Array GenState → Prop} {n : Nat} {P : Nat → Value → Prop} {St : Nat → Shared → Prop}
abbrev setO (led : Bool) : Obj := { cls := .type "set", dict := none, data := .set #[] 0 (.fresh 0 0 led) }
abbrev Elem (prog : Program) (w : World) (xs : List Str) (i : Nat) (S : Addr) (h : Heap) : Prop := h.SetOf (PySem.strKind prog w) S (fun k => decide (k ∈ xs.take i)) i
theorem Elem.stay {xs : List Str} {i : Nat} {h h' : Heap} (e : Elem prog w xs i S h) (k : ∀ o, h.get? S = some o → h'.get? S = some o) : Elem prog w xs i S h' :=
  let ⟨o, es, ep, tb, ho, rest⟩ := e; ⟨o, es, ep, tb, k o ho, rest⟩
theorem set_loopT (W : WalksS prog w A.in1 I fp wr G n P St) (off : S ∉ fp) {xs : List Str} (hl : xs.length = n) (nd : xs.Nodup) (room : n < scanBound) (val : ∀ i v, P i v → ∃ x t, xs[i]? = some x ∧ v = .str x t) :
    ∀ (k i : Nat) (s : Shared), i + k = n → St i s → Elem prog w xs i S s.heap → (∀ s', Moved (S :: wr) G s s' → Elem prog w xs n S s'.heap → R (.ok (.ret .none)) s') →
      codeAny (model prog w) A (.builtin "set.update.loop" ⟨[.ref S, .ref I], []⟩) R s
  | 0, i, s, hk, hst, he, hR => by
    obtain rfl : i = n := hk
    refine codeAny_builtin PyProof.Rows.F.entry_set_update_loop ?_
    rw [Around.under_plainId PyProof.Rows.F.plain_set_update_loop _]
    refine wpAny_bind (W.done s _ _ hst fun s' hm => wpAny_pure (hR s' (hm.mono fun b hb => List.mem_cons_of_mem _ hb) (he.stay fun o e => hm.heap S o (fun h => off (W.sub _ h)) e)))
  | k + 1, i, s, hk, hst, he, hR => by
    refine codeAny_builtin PyProof.Rows.F.entry_set_update_loop ?_
    rw [Around.under_plainId PyProof.Rows.F.plain_set_update_loop _]
    refine wpAny_bind (W.item i s _ _ (by omega) hst fun v s' hP hst' hm => ?_)
    obtain ⟨x, t, hx, rfl⟩ := val i v hP
    have he' : Elem prog w xs i S s'.heap := he.stay fun o e => hm.heap S o (fun h => off (W.sub _ h)) e
    show wpAny _ A.in1 (holding [Value.str x t] (setAdd S (.str x t)) >>= _) _ _ s'
    refine wpAny_bind (wpAny_holding ?_)
    unfold setAdd
    refine wpAny_holding (wpAny_bind ((PySem.strKind prog w).pyHash (k := x) (strKind_is _ _ _ _) ?_))
    refine wpAny_setAddHashed_of (knd := PySem.strKind prog w) (s := { s' with toks := s'.toks + 1 }) (strKind_is _ _ _ _) rfl he' (by omega) fun h' hsb hS2 => ?_
    have hni : x ∉ xs.take i := not_in_take nd hx
    have he2 : Elem prog w xs (i + 1) S h' := SetOf_congr hS2 (fun y => by rw [take_more hx]; by_cases e : y ∈ xs.take i <;> by_cases e2 : y = x <;> simp [e, e2]) (by rw [if_neg (by simpa using hni)])
    refine wpAny_pure ⟨plainId_quiet PyProof.Rows.F.plain_set_update_loop _, set_loopT W off hl nd room val k (i + 1) _ (by omega) (W.frame _ s' _ _ hst' (Nat.le_succ _) fun b hb o e => ?_) he2 fun s2 hm2 he3 => ?_⟩
    · rw [hsb.2 b (fun h => off (h ▸ hb))]; exact e
    · refine hR s2 (Moved.trans W.gtrans ((hm.mono fun b hb => List.mem_cons_of_mem _ hb).then_heap (Nat.le_succ _) fun b o hb e => ?_) hm2) he3
      rw [hsb.2 b (fun h => hb (by rw [h]; exact List.mem_cons_self))]; exact e
end
section
variable {prog : Program} {w : World} {A : Around} {E : Value → Shared → Prop} {s : Shared}
theorem set_of_list {l : Addr} {items : Array Value} {xs : List Str} {Q : Value → Shared → Prop} (hh : A.handled = none) (hl : s.heap.IsList l items) (hi : PyProof.Rows.StrsAre items.toList xs) (nd : xs.Nodup) (room : xs.length < scanBound)
    (h : ∀ (h' : Heap) (tk : Nat), Elem prog w xs xs.length s.heap.objs.size h' → (∀ b o, s.heap.get? b = some o → h'.get? b = some o) → Q (.ref s.heap.objs.size) { s with heap := h', toks := tk }) :
    wpAny (model prog w) A (call (.type "set") [.ref l]) Q E s := by
  obtain ⟨c, tl, hmro⟩ := PySem.F.called_set.mro
  have hmade := PySem.F.called_set.made
  have hsub := PySem.F.called_set.sub
  refine wpAny_call (codeAny_of_tree ?_)
  refine wpAny_pure ⟨Code.quiet_builtin _ (by decide +kernel), codeAny_builtin PySem.F.entry_type_call ?_⟩
  rw [Around.under_plain (weight_type_call_type "set" [.ref l] []) rfl]
  have nt := PySem.F.called_set.notType
  have cc := PySem.F.called_set.canCreate
  have ct := PySem.F.typeCall_set_1 (.ref l)
  repeat (any_goals (first | assumption | wp_step))
  refine codeAny_mono (code_set_new_1 (.ref l) (E := E) (Q₁ := fun obj s1 => ∃ led : Bool, obj = .ref s.heap.objs.size ∧ s1 = { s with heap := s.heap.push { cls := .type "set", dict := none, data := .set #[] 0 (.fresh 0 0 led) } }) fun led => ⟨led, rfl, rfl⟩) fun r s1 hr => ?_
  match r, hr with
  | .ok (.ret obj), hr =>
    obtain ⟨led, rfl, rfl⟩ := hr
    have hS : (s.heap.push (setO led)).get? s.heap.objs.size = some (setO led) := Heap.get?_push_size _ rfl
    have hTy : Shared.TypeIs { s with heap := s.heap.push (setO led) } (.ref s.heap.objs.size) "set" := ⟨_, hS, rfl⟩
    have li := PySem.F.called_set.init.lookup
    have bi := PySem.F.called_set.init.bind (.ref s.heap.objs.size)
    repeat (any_goals (first | assumption | wp_step))
    refine codeAny_mono (codeAny_call_builtin (R := wants (fun r s2 => r = .none ∧ ∃ h' tk, s2 = { s with heap := h', toks := tk } ∧ Elem prog w xs xs.length s.heap.objs.size h' ∧ (∀ b o, s.heap.get? b = some o → h'.get? b = some o)) E)
      PySem.F.called_set.init.plain PySem.F.entry_set_init (check_set_init_1 hTy ?_)) fun r2 s2 hr2 => ?_
    · obtain ⟨⟨oc, od, odt, osl⟩, hol, hcl, nl, hdl⟩ := hl
      dsimp only at hcl hdl
      subst hcl hdl
      have hol' : (s.heap.push (setO led)).get? l = some { cls := .type "list", dict := od, data := .seq items nl, slots := osl } := Heap.get?_push_of_some _ hol
      have ss := PySem.F.sub_list_set
      have sf := PySem.F.sub_list_frozenset
      have ne : (Value.type "list" == Value.type "dict") = false := by decide
      have hl1 : (s.heap.push (setO led)).IsList l items := ⟨_, hol', rfl, nl, rfl⟩
      unfold Builtin.«set.__init__» noKeywords Builtin.Frozenset.updateFrom
      generalize hPI : pyIter = PI
      wp_walk
      subst hPI
      refine wpAny_pyIter_list hl1 ?_
      refine wpAny_bind (wpAny_runValue ?_)
      have hlS : l < s.heap.objs.size := Heap.lt_size hol
      have hz : (s.heap.push (setO led)).objs.size = s.heap.objs.size + 1 := Heap.size_push ..
      have neI : l ≠ (s.heap.push (setO led)).objs.size := by rw [hz]; exact Nat.ne_of_lt (Nat.lt_succ_of_lt hlS)
      have off : s.heap.objs.size ∉ [(s.heap.push (setO led)).objs.size, l] := by
        rw [hz]; simp only [List.mem_cons, List.not_mem_nil, or_false, not_or]
        exact ⟨Nat.ne_of_lt (Nat.lt_succ_self _), Nat.ne_of_gt hlS⟩
      have hsz : xs.length = items.size := by rw [← StrsAre.len_eq hi, Array.length_toList]
      refine set_loopT (xs := xs) ((Walks.list (A := A.in1.in1.in1) (by simp [hh]) _ l neI items).toS) off hsz nd (by rw [← hsz]; exact room) (fun i v hv => ?_) items.size 0 _ (Nat.zero_add _) ⟨⟨_, Heap.get?_push_size _ rfl, rfl, rfl⟩, hl1.push _⟩ ?_ fun s' hm hS' => ?_
      · obtain ⟨t, e⟩ := SS.strs_at hi i v (by rw [Array.getElem?_toList]; exact hv)
        have hlt : i < xs.length := by rw [hsz]; exact (Array.getElem?_eq_some_iff.mp hv).1
        exact ⟨xs[i], t, List.getElem?_eq_getElem hlt, by rw [e, List.getD_eq_getElem?_getD, List.getElem?_eq_getElem hlt]; rfl⟩
      · exact PyProof.Rows.SetOf_congr ((PyProof.Rows.setObjOf_fresh (knd := PySem.strKind prog w) led).setOf (Heap.get?_push_of_some _ hS) (by unfold scanBound; omega)) (fun _ => by simp) rfl
      · obtain ⟨h', g', d', tk', os'⟩ := s'
        obtain rfl : g' = s.gens := hm.gens
        obtain rfl : d' = s.drawn := hm.drawn
        obtain rfl : os' = s.os := hm.os
        refine wpAny_pure (wpAny_pure ⟨rfl, h', tk', rfl, by rw [hsz]; exact hS', fun b o e => ?_⟩)
        have hb : b < s.heap.objs.size := Heap.lt_size e
        refine hm.heap b o (fun hmem => ?_) (Heap.get?_push_of_some _ (Heap.get?_push_of_some _ e))
        have e' : b = s.heap.objs.size ∨ b = (s.heap.push (setO led)).objs.size := by simpa using hmem
        rcases e' with e' | e'
        · exact Nat.ne_of_lt hb e'
        · rw [hz] at e'; exact Nat.ne_of_lt (Nat.lt_succ_of_lt hb) e'
    · match r2, hr2 with
      | .ok (.ret r), hr2 =>
        obtain ⟨rfl, h', tk, rfl, hS', hk'⟩ := hr2
        repeat (any_goals (first | assumption | wp_step))
        exact h _ _ hS' hk'
      | .error e, hr2 => exact hr2
  | .error e, hr => exact hr
end
section
variable {prog : Program} {w : World} {A : Around} {E : Value → Shared → Prop} {s : Shared}
theorem set_of_tuple {l : Addr} {items : Array Value} {xs : List Str} {Q : Value → Shared → Prop} (hh : A.handled = none) (hl : s.heap.IsTuple l items) (hi : PyProof.Rows.StrsAre items.toList xs) (nd : xs.Nodup) (room : xs.length < scanBound)
    (h : ∀ (h' : Heap) (tk : Nat), Elem prog w xs xs.length s.heap.objs.size h' → (∀ b o, s.heap.get? b = some o → h'.get? b = some o) → Q (.ref s.heap.objs.size) { s with heap := h', toks := tk }) :
    wpAny (model prog w) A (call (.type "set") [.ref l]) Q E s := by
  obtain ⟨c, tl, hmro⟩ := PySem.F.called_set.mro
  have hmade := PySem.F.called_set.made
  have hsub := PySem.F.called_set.sub
  refine wpAny_call (codeAny_of_tree ?_)
  refine wpAny_pure ⟨Code.quiet_builtin _ (by decide +kernel), codeAny_builtin PySem.F.entry_type_call ?_⟩
  rw [Around.under_plain (weight_type_call_type "set" [.ref l] []) rfl]
  have nt := PySem.F.called_set.notType
  have cc := PySem.F.called_set.canCreate
  have ct := PySem.F.typeCall_set_1 (.ref l)
  repeat (any_goals (first | assumption | wp_step))
  refine codeAny_mono (code_set_new_1 (.ref l) (E := E) (Q₁ := fun obj s1 => ∃ led : Bool, obj = .ref s.heap.objs.size ∧ s1 = { s with heap := s.heap.push { cls := .type "set", dict := none, data := .set #[] 0 (.fresh 0 0 led) } }) fun led => ⟨led, rfl, rfl⟩) fun r s1 hr => ?_
  match r, hr with
  | .ok (.ret obj), hr =>
    obtain ⟨led, rfl, rfl⟩ := hr
    have hS : (s.heap.push (setO led)).get? s.heap.objs.size = some (setO led) := Heap.get?_push_size _ rfl
    have hTy : Shared.TypeIs { s with heap := s.heap.push (setO led) } (.ref s.heap.objs.size) "set" := ⟨_, hS, rfl⟩
    have li := PySem.F.called_set.init.lookup
    have bi := PySem.F.called_set.init.bind (.ref s.heap.objs.size)
    repeat (any_goals (first | assumption | wp_step))
    refine codeAny_mono (codeAny_call_builtin (R := wants (fun r s2 => r = .none ∧ ∃ h' tk, s2 = { s with heap := h', toks := tk } ∧ Elem prog w xs xs.length s.heap.objs.size h' ∧ (∀ b o, s.heap.get? b = some o → h'.get? b = some o)) E)
      PySem.F.called_set.init.plain PySem.F.entry_set_init (check_set_init_1 hTy ?_)) fun r2 s2 hr2 => ?_
    · obtain ⟨⟨oc, od, odt, osl⟩, hol, hcl, nl, hdl⟩ := hl
      dsimp only at hcl hdl
      subst hcl hdl
      have hol' : (s.heap.push (setO led)).get? l = some { cls := .type "tuple", dict := od, data := .seq items nl, slots := osl } := Heap.get?_push_of_some _ hol
      have ss := PySem.F.sub_tuple_set
      have sf := PySem.F.sub_tuple_frozenset
      have ne : (Value.type "tuple" == Value.type "dict") = false := by decide
      have hl1 : (s.heap.push (setO led)).IsTuple l items := ⟨_, hol', rfl, nl, rfl⟩
      unfold Builtin.«set.__init__» noKeywords Builtin.Frozenset.updateFrom
      generalize hPI : pyIter = PI
      wp_walk
      subst hPI
      refine wpAny_pyIter_tuple hl1 ?_
      refine wpAny_bind (wpAny_runValue ?_)
      have hlS : l < s.heap.objs.size := Heap.lt_size hol
      have hz : (s.heap.push (setO led)).objs.size = s.heap.objs.size + 1 := Heap.size_push ..
      have neI : l ≠ (s.heap.push (setO led)).objs.size := by rw [hz]; exact Nat.ne_of_lt (Nat.lt_succ_of_lt hlS)
      have off : s.heap.objs.size ∉ [(s.heap.push (setO led)).objs.size, l] := by
        rw [hz]; simp only [List.mem_cons, List.not_mem_nil, or_false, not_or]
        exact ⟨Nat.ne_of_lt (Nat.lt_succ_self _), Nat.ne_of_gt hlS⟩
      have hsz : xs.length = items.size := by rw [← StrsAre.len_eq hi, Array.length_toList]
      refine set_loopT (xs := xs) ((Walks.tuple (A := A.in1.in1.in1) (by simp [hh]) _ l neI items).toS) off hsz nd (by rw [← hsz]; exact room) (fun i v hv => ?_) items.size 0 _ (Nat.zero_add _) ⟨⟨_, Heap.get?_push_size _ rfl, rfl, rfl⟩, hl1.push _⟩ ?_ fun s' hm hS' => ?_
      · obtain ⟨t, e⟩ := SS.strs_at hi i v (by rw [Array.getElem?_toList]; exact hv)
        have hlt : i < xs.length := by rw [hsz]; exact (Array.getElem?_eq_some_iff.mp hv).1
        exact ⟨xs[i], t, List.getElem?_eq_getElem hlt, by rw [e, List.getD_eq_getElem?_getD, List.getElem?_eq_getElem hlt]; rfl⟩
      · exact PyProof.Rows.SetOf_congr ((PyProof.Rows.setObjOf_fresh (knd := PySem.strKind prog w) led).setOf (Heap.get?_push_of_some _ hS) (by unfold scanBound; omega)) (fun _ => by simp) rfl
      · obtain ⟨h', g', d', tk', os'⟩ := s'
        obtain rfl : g' = s.gens := hm.gens
        obtain rfl : d' = s.drawn := hm.drawn
        obtain rfl : os' = s.os := hm.os
        refine wpAny_pure (wpAny_pure ⟨rfl, h', tk', rfl, by rw [hsz]; exact hS', fun b o e => ?_⟩)
        have hb : b < s.heap.objs.size := Heap.lt_size e
        refine hm.heap b o (fun hmem => ?_) (Heap.get?_push_of_some _ (Heap.get?_push_of_some _ e))
        have e' : b = s.heap.objs.size ∨ b = (s.heap.push (setO led)).objs.size := by simpa using hmem
        rcases e' with e' | e'
        · exact Nat.ne_of_lt hb e'
        · rw [hz] at e'; exact Nat.ne_of_lt (Nat.lt_succ_of_lt hb) e'
    · match r2, hr2 with
      | .ok (.ret r), hr2 =>
        obtain ⟨rfl, h', tk, rfl, hS', hk'⟩ := hr2
        repeat (any_goals (first | assumption | wp_step))
        exact h _ _ hS' hk'
      | .error e, hr2 => exact hr2
  | .error e, hr => exact hr
end
section
variable {X : Cx}
def tLenSetT (K : PySem.W.Frag) (ta : TE) : TE := fun σ H Q => ta σ H fun x H1 => ∃ (l : Addr) (xs : List (List Nat)), x = V.ref l ∧ (SqL K H1 l (txs xs) ∨ SqT K H1 l (txs xs)) ∧ xs.length < 60 ∧ xs.Nodup ∧ Q (.int xs.length) H1
theorem nodup_S {xs : List (List Nat)} (h : xs.Nodup) : (xs.map S).Nodup := List.pairwise_map.mpr (h.imp fun n e => n (by have : (S _).cps.toList = (S _).cps.toList := congrArg (fun z : Str => z.cps.toList) e; simpa [S] using this))
theorem pe_lenSetT {a : Expr} {ta : TE} {p p2 q pos : Pos} (hc : X.calm = true) (hg : Gl X "len") (hm : X.mg "len" = none) (hg2 : Gl X "set") (hm2 : X.mg "set" = none) (ha : PE X a ta)
    (na : starEach [a] X.env = (false, eval a X.env) :: starEach [] X.env := by rfl) : PE X (.Call (.Name "len" p) [.Call (.Name "set" p2) [a] [] q] [] pos) (tLenSetT X.K ta) := by
  refine ⟨fun pins s σ H Q I h => ?_⟩
  refine Call_ (ld_blt I hg hm PySem.boot_len (PyProof.Rows.callWith_builtin1 (PyProof.Rows.args_cons ?_ rfl) rfl rfl))
  refine Call_ (ld_blt I hg2 hm2 PyProof.Rows.boot_set (PyProof.Rows.callWith_type1 (PyProof.Rows.args_cons (thn (ha.run pins s σ H _ I h) fun v s1 ⟨x, H1, I1, r1, q1⟩ => PyProof.Rows.args_nil ?_) na) na rfl))
  obtain ⟨l, xs, rfl, hq, h1, hnd, q1⟩ := q1
  cases r1
  have e0 : txs xs = (xs.map S).map V.str := by unfold txs; rw [List.map_map]; rfl
  have room : (xs.map S).length < scanBound := by rw [List.length_map]; unfold scanBound; omega
  have fin : ∀ (h' : Heap) (tk : Nat), Elem X.prog X.w (xs.map S) (xs.map S).length s1.heap.objs.size h' → (∀ b o, s1.heap.get? b = some o → h'.get? b = some o) →
      wpAny (model X.prog X.w) X.A (spliced (backTo pos (starEach [] X.env))) (fun vs s₂ => wpAny (model X.prog X.w) X.A (call (.builtin "len") (Value.ref s1.heap.objs.size :: vs)) (EP X pins σ Q) X.xe s₂) X.xe { s1 with heap := h', toks := tk } := fun h' tk hS hk => by
    refine PyProof.Rows.args_nil ?_
    obtain ⟨o, es, ep, t, ho, hex, hd, _, _, _, hf, hn⟩ := hS
    have I2 : Inv X pins σ H1 { s1 with heap := h', toks := tk } := I1.kept hk
    rw [List.length_map] at hn
    exact call_len_set ho hex hd hf (by rw [hn]; omega) ⟨.int xs.length, H1, I2.tok _, ⟨_, by rw [hn]⟩, q1⟩
  rcases hq with hq | hq
  · rw [e0] at hq
    obtain ⟨its, r, pl, hz⟩ := I1.list hq
    exact set_of_list (I1.ok.hd hc) pl.isList (by simpa using strsAre_of r) (nodup_S hnd) room fun h' tk hS hk => fin h' tk hS hk
  · rw [e0] at hq
    obtain ⟨its, r, pl, hz⟩ := I1.tuple hq
    exact set_of_tuple (I1.ok.hd hc) pl (by simpa using strsAre_of r) (nodup_S hnd) room fun h' tk hS hk => fin h' tk hS hk
end
end LX
set_option maxHeartbeats 2000000
namespace LX
open PySem PySem.Spec PyProof.Rows L2 C8 SX
def SqB (K : PySem.W.Frag) (b : Bool) (H : Hp) (a : Addr) (xs : List V) : Prop := if b = true then SqL K H a xs else SqT K H a xs
def ItA (K : PySem.W.Frag) (b : Bool) (a : Addr) : It := if b = true then Itl K a else Itt K a
theorem SqB.or {K : PySem.W.Frag} {b : Bool} {H : Hp} {a : Addr} {xs : List V} (h : SqB K b H a xs) : SqL K H a xs ∨ SqT K H a xs := by
  cases b
  · exact .inr h
  · exact .inl h
theorem SqB.same {K : PySem.W.Frag} {b : Bool} {H H' : Hp} {a : Addr} {xs : List V} (h : SqB K b H a xs) (s : Same H H') : SqB K b H' a xs := by
  cases b
  · exact sm_seqT s h
  · exact s.seq h
theorem SqB.lst {K : PySem.W.Frag} {H : Hp} {a : Addr} {xs : List V} (h : H a = some (.lst xs)) : SqB K true H a xs := SqL.of h
theorem SqB.tup {K : PySem.W.Frag} {H : Hp} {a : Addr} {xs : List V} (h : H a = some (.tup xs)) : SqB K false H a xs := SqT.of h
def seqB (b : Bool) (xs : List V) : HO := if b = true then .lst xs else .tup xs
theorem SqB.of {K : PySem.W.Frag} {b : Bool} {H : Hp} {a : Addr} {xs : List V} (h : H a = some (seqB b xs)) : SqB K b H a xs := by
  cases b
  · exact SqB.tup h
  · exact SqB.lst h
theorem walk_seq {K : PySem.W.Frag} {b : Bool} {a : Addr} {xs : List V} : Walk (ItA K b a) xs.length (fun H => SqB K b H a xs) (YAt xs) := by
  cases b
  · exact walk_tup
  · exact walk_list
def iSeq (K : PySem.W.Frag) (tl : TE) : TI := fun σ H R => tl σ H fun x H1 => ∃ a b xs, x = .ref a ∧ SqB K b H1 a xs ∧ R (ItA K b a) H1
theorem pi_seq {X : Cx} {tg l : Expr} {tl : TE} (hl : PE X l tl) : PI X tg l (iSeq X.K tl) := by
  refine ⟨fun pins s σ H R I h => thn (hl.run pins s σ H _ I h) fun v s1 ⟨x, H1, I1, r1, a, b, xs, e, hq, q⟩ => ?_⟩
  subst e
  cases r1
  have new : ∀ c ∈ [s1.heap.objs.size], FpOk X pins H1 c := fun c hc => by
    rw [List.mem_singleton.mp hc]
    exact I1.fpOk (Nat.le_refl _) (I1.hok.fresh (Nat.le_refl _))
  cases b with
  | true =>
    obtain ⟨its, rv, p, hz⟩ := I1.list hq
    exact wpAny_pyIter_list p.isList ⟨s1.heap.objs.size, _, _, _, H1, rfl, I1.kept (t' := s1.toks) fun b o e => Heap.get?_push_of_some _ e, turn_list a _, ⟨_, Heap.get?_push_size _ rfl, rfl, rfl⟩, new, q⟩
  | false =>
    obtain ⟨its, rv, p, hz⟩ := I1.tuple hq
    exact wpAny_pyIter_tuple (show s1.heap.IsTuple a its.toArray from p) ⟨s1.heap.objs.size, _, _, _, H1, rfl, I1.kept (t' := s1.toks) fun b o e => Heap.get?_push_of_some _ e, turn_tuple a _, ⟨_, Heap.get?_push_size _ rfl, rfl, rfl⟩, new, q⟩
theorem pi_listK {X : Cx} {tg l : Expr} {tl : TE} (K : PySem.W.Frag) (hl : PE X l tl) (h : X.K = K := by rfl) : PI X tg l (iList K tl) := by subst h; exact pi_list hl
theorem pi_tupK {X : Cx} {tg l : Expr} {tl : TE} (K : PySem.W.Frag) (hl : PE X l tl) (h : X.K = K := by rfl) : PI X tg l (iTup K tl) := by subst h; exact pi_tup hl
theorem pi_seqK {X : Cx} {tg l : Expr} {tl : TE} (K : PySem.W.Frag) (hl : PE X l tl) (h : X.K = K := by rfl) : PI X tg l (iSeq K tl) := by subst h; exact pi_seq hl
def inS : Expr → Scope
  | .ListComp (.ListComp _ _ s _) _ _ _ => s
  | _ => { kind := .function, names := [], isGenerator := false, isCoroutine := false }
def outS : Expr → Scope
  | .ListComp _ _ s _ => s
  | _ => { kind := .function, names := [], isGenerator := false, isCoroutine := false }
def ofRet : Stmt → Expr
  | .Return (some e) _ => e
  | .Assign _ e _ => e
  | _ => .Constant .none 0 ⟨0, 0, 0, 0⟩
theorem tuple_of {K : PySem.W.Frag} {b : Bool} {H : Hp} {a : Addr} {xs : List V} {Q : VK} (h : SqB K b H a xs) (q1 : ∀ l, H l = none → Q (.ref l) (upd H l (.tup xs))) (q2 : b = false → Q (.ref a) H) :
    (SqL K H a xs ∧ ∀ l, H l = none → Q (.ref l) (upd H l (.tup xs))) ∨ (SqT K H a xs ∧ Q (.ref a) H) := by
  cases b
  · exact .inr ⟨h, q2 rfl⟩
  · exact .inl ⟨h, q1⟩
theorem tupA {K : PySem.W.Frag} {b : Bool} {H : Hp} {a : Addr} {xs : List V} {Q : VK} (h : H a = some (seqB b xs)) (k : ∀ l H', Same H H' → H' l = some (.tup xs) → (b = false → l = a) → (b = true → H l = none) → Q (.ref l) H') :
    (SqL K H a xs ∧ ∀ l, H l = none → Q (.ref l) (upd H l (.tup xs))) ∨ (SqT K H a xs ∧ Q (.ref a) H) := by
  cases b
  · exact .inr ⟨SqT.of h, k a H (Same.refl H) h (fun _ => rfl) (fun h => nomatch h)⟩
  · exact .inl ⟨SqL.of h, fun l hl => k l _ (sm_new hl) upd_same (fun h => nomatch h) (fun _ => hl)⟩
theorem tCB_tup {K : PySem.W.Frag} {b : Bool} {i : Nat} {σ : L2.St} {H : Hp} {a : Addr} {xs : List V} {Q : VK} (hv : σ[i]? = some (some (.ref a))) (h : H a = some (seqB b xs)) (k : ∀ l H', Same H H' → H' l = some (.tup xs) → (b = false → l = a) → (b = true → H l = none) → Q (.ref l) H') :
    tCB (fun xs H Q => ∃ p ys, xs = [.ref p] ∧ ((SqL K H p ys ∧ ∀ l, H l = none → Q (.ref l) (upd H l (.tup ys))) ∨ (SqT K H p ys ∧ Q (.ref p) H))) (tCons (tVar i) tNil) σ H Q :=
  ⟨_, hv, a, xs, rfl, tupA (Q := Q) h k⟩
theorem eqV_S {x y : List Nat} : eqV (.str (S x)) (.str (S y)) = decide (x = y) := by
  show (S x == S y) = _
  by_cases e : x = y
  · subst e; simp
  · have : S x ≠ S y := fun h => e (by have : (S x).cps.toList = (S y).cps.toList := congrArg (fun z : Str => z.cps.toList) h; simpa [S] using this)
    rw [decide_eq_false e]; simpa using this
theorem flat_txs (xs : List (List Nat)) : (txs xs).all flatV = true := by
  unfold txs; rw [List.all_map]; exact List.all_eq_true.mpr fun _ _ => rfl
theorem inV_txs {x : List Nat} {xs : List (List Nat)} : inV (.str (S x)) (txs xs) = decide (x ∈ xs) := by
  unfold inV txs
  induction xs with
  | nil => rfl
  | cons y ys ih =>
    rw [List.map_cons, List.any_cons, ih]
    show (eqV (.str (S y)) (.str (S x)) || _) = _
    rw [eqV_S]
    by_cases e : y = x <;> by_cases e2 : x ∈ ys <;> simp [e, e2]
    · intro h; exact absurd h.symm e
theorem dictZipK {X : Cx} (K : PySem.W.Frag) {e e2 : Expr} {ta : TA} {p p2 pos pos2 : Pos} (hc : X.calm = true) (hgd : Gl X "dict") (hmd : X.mg "dict" = none) (hg : Gl X "zip") (hm : X.mg "zip" = none) (ha : PA X [e, e2] ta) (h : X.K = K := by rfl)
    (hs : starEach [e, e2] X.env = (false, eval e X.env) :: starEach [e2] X.env := by rfl) (hpl : (backTo pos2 (starEach [e2] X.env)).any (·.1) = false := by rfl)
    (hs' : starEach [.Call (.Name "zip" p2) [e, e2] [] pos2] X.env = (false, eval (.Call (.Name "zip" p2) [e, e2] [] pos2) X.env) :: starEach [] X.env := by rfl) (hpl' : (backTo pos (starEach [] X.env)).any (·.1) = false := by rfl) :
    PE X (.Call (.Name "dict" p) [.Call (.Name "zip" p2) [e, e2] [] pos2] [] pos) (tDictZip K ta) := by subst h; exact pe_dictZip hc hgd hmd hg hm ha hs hpl hs' hpl'
end LX
set_option maxHeartbeats 2000000
namespace LX
open PySem PySem.Spec PyProof.Rows L2 C8 SX NdefX
noncomputable def upB (h base : Heap) (cs : List Addr) : Heap := hidT h fun b => if (base.get? b).isSome = true ∨ b ∈ cs then none else some (.lst [])
theorem upB_get {h base : Heap} {cs : List Addr} {b : Addr} {o : Obj} (e : h.get? b = some o) (n : (base.get? b).isSome = true ∨ b ∈ cs) : (upB h base cs).get? b = some o := hidT_get e (if_pos n)
theorem of_upB {h base : Heap} {cs : List Addr} {b : Addr} {o : Obj} (e : (upB h base cs).get? b = some o) : h.get? b = some o ∧ ((base.get? b).isSome = true ∨ b ∈ cs) := by
  obtain ⟨e1, e2⟩ := of_hidT e
  refine ⟨e1, ?_⟩
  by_cases n : (base.get? b).isSome = true ∨ b ∈ cs
  · exact n
  · have e2 : (if (base.get? b).isSome = true ∨ b ∈ cs then none else some (HO.lst [])) = none := e2
    rw [if_neg n] at e2; cases e2
structure BCells (cl : List (Str × Addr)) (fr : List Str) (ws : List (Option V)) (base : Heap) : Prop where
  len : ws.length = fr.length
  all : ∀ y c, cl.lookup y = some c → ∃ v, base.IsCell c v
  inj : ∀ x y c, cl.lookup x = some c → cl.lookup y = some c → x = y
  has : ∀ (i : Nat) (y : Str), fr[i]? = some y → ∃ c, cl.lookup y = some c ∧ ∀ v, ws[i]? = some (some v) → ∃ u, RelV v u ∧ base.IsCell c (some u)
theorem BCells.at_ {cl : List (Str × Addr)} {fr : List Str} {ws : List (Option V)} {base : Heap} (b : BCells cl fr ws base) {h : Heap} {H : Hp} (bs : ∀ b o, base.get? b = some o → h.get? b = some o ∧ H b = none) : CellsAt cl fr ws h H :=
  ⟨b.len, fun y c e => let ⟨v, o, e1, e2⟩ := b.all y c e; ⟨(bs _ _ e1).2, v, o, (bs _ _ e1).1, e2⟩, b.inj, fun i y e => let ⟨c, e1, f⟩ := b.has i y e; ⟨c, e1, fun v hv => let ⟨u, r, o, e2, e3⟩ := f v hv; ⟨u, r, o, (bs _ _ e2).1, e3⟩⟩⟩
section
variable {X : Cx} {pins : List (Addr × Obj)} {σ : L2.St} {H : Hp} {s : Shared}
theorem funs_up {h base : Heap} {cs : List Addr} : ∀ {l : List Env}, h.FunFrames base l → (∀ b ∈ frs l, b ∉ cs) → h.FunFrames (upB h base cs) l
  | [], _, _ => trivial
  | env :: rest, ⟨a, ⟨L, o, e1, e2, e3, e4⟩, r⟩, n => by
    have hm : L ∈ frs (env :: rest) := by unfold frs; rw [List.filterMap_cons, e1]; exact List.mem_cons_self
    refine ⟨a, ⟨L, o, e1, ?_, e3, e4⟩, funs_up r fun b hb => n b ?_⟩
    · cases q : (upB h base cs).get? L with
      | none => rfl
      | some o' =>
        rcases (of_upB q).2 with z | z
        · rw [e2] at z; cases z
        · exact absurd z (n L hm)
    · unfold frs at hb ⊢; rw [List.filterMap_cons, e1]; exact List.mem_cons_of_mem _ hb
theorem env_up (I : Inv X pins σ H s) {cs : List Addr} (hc : ∀ c ∈ cs, ∃ x, X.env.cells.lookup x = some c ∧ X.fn x = true) : Env0 X.prog X.w X.K X.mg (upB s.heap X.base cs) X.A X.stack s H := by
  have e0 := I.env0
  have k : ∀ b o, X.base.get? b = some o → (upB s.heap X.base cs).get? b = some o := fun b o e => upB_get (e0.bs b o e).1 (.inl (by rw [e]; rfl))
  obtain ⟨mb, b1, b2⟩ := e0.mod.blt
  refine ⟨e0.frames, ⟨fun b o e => k b o (e0.mod.kin b o e), e0.mod.glob.keeps k, ⟨mb, b1.keeps k, b2⟩, e0.mod.nolimit.keeps k⟩, fun b o e => ?_, Nat.le_of_eq (hidT_size _ _), funs_up e0.funs fun L hL hm => ?_, e0.frf, e0.hok, e0.bare⟩
  · obtain ⟨e1, n⟩ := of_upB e
    refine ⟨e1, ?_⟩
    rcases n with n | n
    · obtain ⟨o', q⟩ := Option.isSome_iff_exists.mp n
      exact (e0.bs b o' q).2
    · obtain ⟨x, hx, _⟩ := hc b n
      exact I.freeC x b hx
  · obtain ⟨x, hx, hf⟩ := hc L hm
    have above := I.ok.cab x L hf hx
    have out : ∀ l : List Env, X.s_0.heap.FunFrames X.base l → L ∈ frs l → False := fun l => by
      induction l with
      | nil => intro _ h; simp [frs] at h
      | cons env rest ih =>
        rintro ⟨_, ⟨M, o, e1, _, e3, _⟩, r⟩ h
        unfold frs at h; rw [List.filterMap_cons, e1] at h
        rcases List.mem_cons.mp h with z | z
        · have := Heap.lt_size e3
          rw [← z] at this
          exact Nat.lt_irrefl _ (Nat.lt_of_lt_of_le this above)
        · exact ih r z
    rcases I.ok.stk with e | ⟨e, ef⟩
    · rw [e] at hL; exact out _ I.ok.funs hL
    · rw [e] at hL
      unfold frs at hL; rw [List.filterMap_cons, ef] at hL
      rcases List.mem_cons.mp hL with z | z
      · obtain ⟨m, ⟨o, es, ep, e1, e2, _⟩, _⟩ := I.loc
        obtain ⟨v, o', q1, q2⟩ := I.cell x L hx
        rw [z, e1] at q1
        cases q1
        rw [e2] at q2; cases q2
      · exact out _ I.ok.funs z
theorem cells_up (I : Inv X pins σ H s) {cl : List (Str × Addr)} {fr : List Str} {js : List Nat} (c : Caps X cl fr js) : BCells cl fr (js.map (slotAt σ)) (upB s.heap X.base (cl.map (·.2))) := by
  have C := cells_of I c
  have mem : ∀ {y : Str} {a : Addr}, cl.lookup y = some a → a ∈ cl.map (·.2) := fun {y a} h => by
    obtain ⟨l1, l2, e, _⟩ := List.lookup_eq_some_iff.mp h
    rw [e]; simp
  refine ⟨C.len, fun y a e => ?_, C.inj, fun i y e => ?_⟩
  · obtain ⟨_, v, o, e1, e2⟩ := C.all y a e
    exact ⟨v, o, upB_get e1 (.inr (mem e)), e2⟩
  · obtain ⟨a, e1, f⟩ := C.has i y e
    exact ⟨a, e1, fun v hv => let ⟨u, r, o, e2, e3⟩ := f v hv; ⟨u, r, o, upB_get e2 (.inr (mem e1)), e3⟩⟩
def tUp (S : List (Option V) → Sp → Prop) (js : List Nat) (t : TA) : TE := fun σ H Q => t σ H fun vs H1 => ∃ sp, S (js.map (slotAt σ)) sp ∧ sp vs H1 Q C8.E0
theorem pe_cUp {k j : Nat} {g : Addr} {x : Str} {p pos : Pos} {e : Expr} {es : List Expr} {t : TA} {cl : List (Str × Addr)} {fr : List Str} {js : List Nat} {S : List (Option V) → Sp → Prop} (named : X.mg x = some (.ref g)) (kept : PySem.W.keepIn X.K (.ref g) = true)
    (cp : X.Ok → Caps X cl fr js) (hfn : ∀ y c, cl.lookup y = some c → X.fn y = true)
    (hS : ∀ ws sp (base' : Heap), S ws sp → X.K.In base' → base'.Ns mainGlobals X.mg → BCells cl fr ws base' → Cal X.prog X.w X.K X.mg base' k x sp []) (room : Room j X.A) (hk : k ≤ j) (hg : Gl X x) (ha : PA X (e :: es) t) (nd : cl.map (·.1) |>.Nodup) (hdb : (x == ("__debug__" : Str)) = false := by decide)
    (he : starEach (e :: es) X.env = (false, eval e X.env) :: starEach es X.env := by rfl) (hpl : (backTo pos (starEach es X.env)).any (·.1) = false := by rfl) : PE X (.Call (.Name x p) (e :: es) [] pos) (tUp S js t) := by
  constructor
  intro pins s σ H Q I want
  refine wpAny_Call_Name_kw (ld_glob I hg named ?_ hdb)
  refine PySem.W.callWith_K (h₀ := X.base) I.ok.mod.kin kept (thn (ha.run pos pins s σ H _ I want) ?_) he hpl
  rintro us s1 ⟨vs, H1, I1, rel, sp, s0, q⟩
  refine ⟨I1.kIn, ?_⟩
  have C := cp I1.ok
  have hcs : ∀ c ∈ cl.map (·.2), ∃ x, X.env.cells.lookup x = some c ∧ X.fn x = true := fun c hc => by
    obtain ⟨⟨y, c'⟩, hm, rfl⟩ := List.mem_map.mp hc
    have hl : cl.lookup y = some c' := by
      clear C hfn hS cp
      induction cl with
      | nil => cases hm
      | cons a r ih =>
        obtain ⟨z, d⟩ := a
        rw [List.map_cons, List.nodup_cons] at nd
        rcases List.mem_cons.mp hm with h | h
        · cases h; exact List.lookup_cons_self ..
        · have hne : (y == z) = false := by
            refine beq_eq_false_iff_ne.mpr fun e => nd.1 ?_
            rw [← e]; exact List.mem_map_of_mem (f := (·.1)) h
          rw [List.lookup_cons, hne]
          exact ih nd.2 h (List.mem_map_of_mem (f := (·.2)) h)
    exact ⟨y, C.sub y c' hl, hfn y c' hl⟩
  have E1 := env_up I1 hcs
  obtain ⟨f, fd, ps, ds, F, named', _, bd, dv⟩ := (hS _ sp _ s0 E1.mod.kin E1.mod.glob (cells_up I1 C)).ex
  rw [named] at named'
  cases named'
  cases dv
  have count : (us ++ []).length = ps.length := by rw [List.append_nil, ← rel.length]; exact F.len _ _ _ _ q
  have bs := bd s1 us I1.kIn count
  rw [List.append_nil] at bs
  refine wpAny_call (codeAny_mono (F.run X.A X.stack s1 H1 ⟨us, []⟩ us vs Q C8.E0 (room.mono hk) E1 bs rel q) fun r t' got => ?_)
  match r, got with
  | .ok (.ret u), got => exact I1.after got
end
def CV (P : Program) (w : World) (K : PySem.W.Frag) (mg : Str → Option Value) (base : Heap) (k : Nat) (g : Addr) (tr : Hp → Prop) (sp : Sp) : Prop :=
  Held P w K mg base k g sp ∨
    ∃ (F : NF) (ps fr : List Str) (ws : List (Option V)) (nsp : List (Option V) → Sp), NOk P w K mg base C8.CX0 k g F ps fr nsp ∧ (∀ vs H Q, tr H → sp vs H Q C8.E0 → nsp ws vs H Q C8.E0) ∧ BCells F.cl fr ws base ∧ ∀ H, tr H → H g = some (FnO g F) ∧ H F.c = some (LamX.CodeO F.c F.qual)
def tCallV (i : Nat) (g : Addr) (tr : Hp → Prop) (sp : Sp) (t : TA) : TE := fun σ H Q => σ[i]? = some (some (.ref g)) ∧ tr H ∧ t σ H fun vs H1 => tr H1 ∧ sp vs H1 Q C8.E0
theorem pe_callV {X : Cx} {k j i : Nat} {g : Addr} {tr : Hp → Prop} {sp : Sp} {x : Str} {p pos : Pos} {e : Expr} {es : List Expr} {t : TA} (c : CV X.prog X.w X.K X.mg X.base k g tr sp) (room : Room j X.A) (hk : k ≤ j) (hN : X.N[i]? = some x) (hv : Vis X.env.scope x) (ha : PA X (e :: es) t)
    (hd : (x == ("__debug__" : Str)) = false := by decide) (hcd : (x == ("__classdict__" : Str)) = false := by decide)
    (he : starEach (e :: es) X.env = (false, eval e X.env) :: starEach es X.env := by rfl) (hpl : (backTo pos (starEach es X.env)).any (·.1) = false := by rfl) : PE X (.Call (.Name x p) (e :: es) [] pos) (tCallV i g tr sp t) := by
  constructor
  rintro pins s σ H Q I ⟨hs, ht, want⟩
  rcases c with ⟨fd, ps, F, kept, bd⟩ | ⟨F, ps, fr, ws, nsp, N, hsp, B, htr⟩
  · have F' : FnOk X.prog X.w X.K X.mg X.base (fun _ _ _ _ _ _ => False) k g fd ps (fun vs H Q E => tr H ∧ sp vs H Q E) := F.imp fun _ _ _ _ q => q.2
    refine (pe_callL (i := i) (dvs := []) (E := fun _ _ _ => False) F' (room.mono hk) hN hv kept bd .nil (fun _ _ _ _ _ _ _ z => z.elim) ha hd hcd he hpl).run pins s σ H Q I ⟨hs, ?_⟩
    have e0 : (fun (vs : List V) (H1 : Hp) => tr H1 ∧ sp (vs ++ []) H1 Q fun _ _ _ => False) = fun vs H1 => tr H1 ∧ sp vs H1 Q C8.E0 := by funext vs H1; rw [List.append_nil]; rfl
    show t σ H fun vs H1 => tr H1 ∧ sp (vs ++ []) H1 Q fun _ _ _ => False
    rw [e0]; exact want
  · refine wpAny_Call_Name_kw (thn ((pe_var (pos := p) hN hv hd hcd).run pins s σ H (fun v H1 => v = .ref g ∧ H1 = H) I ⟨.ref g, hs, rfl, rfl⟩) fun u s1 ⟨v, H1, I1, r1, ev, eH⟩ => ?_)
    subst ev
    rw [eH] at I1
    obtain rfl : u = Value.ref g := r1
    refine PySem.W.callWith_F (first := []) (fnAt_of I1 (htr H ht).1) (thn (ha.run pos pins s1 σ H _ I1 want) fun us s2 ⟨vs, H2, I2, r, h1, q⟩ => ⟨fnAt_of I2 (htr H2 h1).1, ?_⟩) he hpl
    refine wpAny_call (codeAny_mono (N.run X.A X.stack s2 H2 us vs ws Q C8.E0 (room.mono hk) I2.env0 (htr H2 h1).1 (htr H2 h1).2 (B.at_ I2.env0.bs) r (hsp vs H2 Q h1 q)) fun r t' got => ?_)
    match r, got with
    | .ok (.ret u), got => exact I2.after got
theorem calC {P : Program} {w : World} {K : PySem.W.Frag} {mg : Str → Option Value} {base : Heap} {x : Str} {st : Stmt} {f : Addr} {fd : FuncData} {N ps : List Str} {ds : List Value} {dvs : List V} {k : Nat} {sp : Sp} {cdv : Value} (F : C8.Def K mg x st f fd) (hc : fd.code = cdv) (b : Binds K fd ps ds) (d : Vals dvs ds) (S : FnScope N ps (C8.fnScope st)) (len : ∀ vs H Q E, sp vs H Q E → vs.length = ps.length)
    (hbody : ∀ (A : Around) (outer : List Env) (s : Shared) (H : Hp) (vs : List V) (Q : VK) (E : XK), Room k (A.deeper (envOfC x (C8.fnScope st) s.heap.objs.size f cdv)) → sp vs H Q E →
      ∃ t, PSs (cxOf C8.CX0 P w K mg base N x (C8.fnScope st) f cdv A outer s H E).nox (C8.fnBody st) t ∧ t { nx := fun _ H' => Q .non H', rt := Q } (start N vs) H) : C8.Cal P w K mg base (k + 1) x sp dvs := by
  refine ⟨f, fd, ps, ds, ?_, F.mgf, F.kp, b, d⟩
  obtain ⟨oc, od, dV, kV, doc, pm, an, cdv', ct, osl, rfl, lk, hcd⟩ := F.fn.ex
  obtain rfl : cdv' = cdv := hc
  refine fn_of lk hcd S len fun A outer s H vs Q E hr hsp => ?_
  obtain ⟨t, h, q⟩ := hbody A outer s H vs Q E hr hsp
  exact ⟨t, h.nox, q⟩
end LX
set_option maxHeartbeats 2000000
namespace LX
open PySem PySem.Spec PyProof.Rows L2 C8 SX NdefX
def takenN (ok : Nat → Bool) (n : Nat) : List Nat := (List.range n).filter ok
theorem takenN_yes {ok : Nat → Bool} {n : Nat} (h : ok n = true) : takenN ok (n + 1) = takenN ok n ++ [n] := by
  unfold takenN; rw [List.range_succ, List.filter_append, List.filter_cons_of_pos h]; rfl
theorem takenN_no {ok : Nat → Bool} {n : Nat} (h : ok n = false) : takenN ok (n + 1) = takenN ok n := by
  unfold takenN; rw [List.range_succ, List.filter_append, List.filter_cons_of_neg (by rw [h]; exact Bool.false_ne_true)]; exact List.append_nil _
theorem takenN_le {ok : Nat → Bool} {n : Nat} : (takenN ok n).length ≤ n := by
  unfold takenN
  exact Nat.le_trans (List.length_filter_le _ _) (by rw [List.length_range]; exact Nat.le_refl _)
theorem lc_keepF {Rel : Hp → Hp → Prop} {J : It} {n : Nat} {G : Hp → Prop} {Y : Nat → Hp → V → Hp → Prop} {H1 : Hp} (kp : Keep Rel H1) (w : Walk J n G Y) {g : TG} {tt : TT} {te : TE} {vs : List Nat} {σ : L2.St} {D : Addr} {Qd : Hp → Prop} (hD : H1 D = none) (hn : n < sizeLine)
    (ok : Nat → Bool) (Good : Nat → V → Hp → Prop) (hG : ∀ H, Rel H1 H → G H)
    (st : ∀ i y H H', Rel H1 H → Rel H H' → Good i y H → Good i y H') (pt : ∀ i y H acc o, Rel H1 H → H D = some (.lst acc) → Good i y H → Good i y (upd H D o))
    (hs : ∀ i x H H' acc (N : Hp → Prop) (R : V → Hp → Prop), i < n → Rel H1 H → H D = some (.lst acc) → Y i H x H' → (ok i = true → ∀ y H4, Rel H H4 → Good i y H4 → R y H4) → (ok i = false → ∀ H4, Rel H H4 → N H4) →
      g x (wipe σ vs) H' fun σ2 H2 => wipe σ2 vs = wipe σ vs ∧ tt σ2 H2 fun b H3 => if b = true then te σ2 H3 R else N H3)
    (hd : ∀ ys H, ys.length = (takenN ok n).length → (∀ (j k : Nat) y, (takenN ok n)[j]? = some k → ys[j]? = some y → Good k y H) → Rel H1 H → H D = some (.lst ys) → Qd H) :
    ∃ W : Nat → Nat → Hp → Prop, (∃ m, W 0 m (upd H1 D (.lst []))) ∧ ∀ i m H, W i m H →
      (J.stop i H ∧ Qd H) ∨ (J.go i H ∧ ∃ Nx : Hp → Prop, (∀ H', Nx H' → ∃ m', m' < m ∧ W (i + 1) m' H') ∧ ∀ x H', J.yld i H x H' → g x (wipe σ vs) H' fun σ2 H2 => wipe σ2 vs = wipe σ vs ∧ tt σ2 H2 fun b H3 =>
        if b = true then te σ2 H3 fun y H4 => ∃ acc, H4 D = some (.lst acc) ∧ acc.length < sizeLine ∧ Nx (upd H4 D (.lst (acc ++ [y]))) else Nx H3) := by
  refine lc_it w (fun i H => ∃ acc, acc.length = (takenN ok i).length ∧ H D = some (.lst acc) ∧ Rel H1 H ∧ ∀ (j k : Nat) y, (takenN ok i)[j]? = some k → acc[j]? = some y → Good k y H) ⟨[], rfl, upd_same, kp.put _ _ _ kp.refl hD, fun j k y _ e => by simp at e⟩
    (fun i H _ ⟨_, _, _, r, _⟩ => hG H r) (fun i x H H' hi ⟨acc, hl, hDa, r, hg⟩ hy => ?_) (fun H ⟨acc, hl, hDa, r, hg⟩ => hd acc H hl hg r hDa)
  have hle := takenN_le (ok := ok) (n := i)
  refine hs i x H H' acc _ _ hi r hDa hy (fun ho y H4 r4 gy => ?_) (fun ho H4 r4 => ?_)
  · have hD4 := kp.get _ _ _ _ r4 hD r hDa
    have r5 := kp.trans _ _ r r4
    refine ⟨acc, hD4, by omega, acc ++ [y], by rw [takenN_yes ho]; simp [hl], upd_same, kp.put _ _ _ r5 hD, fun j k z ek e => ?_⟩
    rw [takenN_yes ho] at ek
    rcases Nat.lt_or_ge j acc.length with h | h
    · rw [List.getElem?_append_left h] at e
      rw [List.getElem?_append_left (by omega)] at ek
      exact pt _ _ _ _ _ r5 hD4 (st _ _ _ _ r r4 (hg j k z ek e))
    · rw [List.getElem?_append_right h] at e
      rw [List.getElem?_append_right (by omega)] at ek
      have hj : j - acc.length = 0 := by
        rcases Nat.lt_or_ge (j - acc.length) 1 with z | z
        · omega
        · rw [List.getElem?_eq_none (by simpa using z)] at e; cases e
      have hj2 : j - (takenN ok i).length = 0 := by omega
      rw [hj] at e; rw [hj2] at ek
      obtain rfl : y = z := Option.some.inj e
      obtain rfl : i = k := Option.some.inj ek
      exact pt _ _ _ _ _ r5 hD4 gy
  · have hD4 := kp.get _ _ _ _ r4 hD r hDa
    exact ⟨acc, by rw [takenN_no ho]; exact hl, hD4, kp.trans _ _ r r4, fun j k y ek e => by rw [takenN_no ho] at ek; exact st _ _ _ _ r r4 (hg j k y ek e)⟩
end LX
set_option maxHeartbeats 2000000
namespace LX
open PySem PySem.Spec PyProof.Rows L2 C8 SX
def outD : Expr → Scope
  | .DictComp _ _ _ s _ => s
  | _ => { kind := .function, names := [], isGenerator := false, isCoroutine := false }
end LX
set_option maxHeartbeats 2000000
namespace LX
open PySem PySem.Spec PyProof.Rows L2 C8 SX
structure Fit (k n : Nat) (d : PyData) : Prop where
  lay : d.canLay0 = true
  int : d.intsShort 13 = true
  sho : d.showable = true
  dep : d.depth ≤ k
  wei : d.weight ≤ n
theorem Fit.mono {k n k' n' : Nat} {d : PyData} (f : Fit k n d) (hk : k ≤ k') (hn : n ≤ n') : Fit k' n' d := ⟨f.lay, f.int, f.sho, Nat.le_trans f.dep hk, Nat.le_trans f.wei hn⟩
theorem Fit.text {k n : Nat} {l : List Nat} (h : ∀ c ∈ l, c < 1114112) (hn : l.length ≤ n) : Fit k n (.str (S l)) := by
  refine ⟨?_, rfl, rfl, Nat.zero_le _, by simpa [PyData.weight, S] using hn⟩
  show (S l).cps.all (· < 0x110000) = true
  rw [← Array.all_toList, List.all_eq_true]
  exact fun c hc => decide_eq_true (h c hc)
theorem Fit.non {k n : Nat} : Fit k n .none := ⟨rfl, rfl, rfl, Nat.zero_le _, Nat.zero_le _⟩
theorem Fit.bl {k n : Nat} {b : Bool} : Fit k n (.bool b) := ⟨rfl, rfl, rfl, Nat.zero_le _, Nat.zero_le _⟩
theorem Fit.all {k n : Nat} : ∀ {ds : List PyData}, (∀ d ∈ ds, Fit k n d) → PyData.canLayAll0 ds = true ∧ PyData.intsShortAll 13 ds = true ∧ PyData.showableAll ds = true ∧ PyData.depthAll ds ≤ k + 1 ∧ PyData.weightAll ds ≤ ds.length * (n + 1)
  | [], _ => ⟨rfl, rfl, rfl, Nat.zero_le _, Nat.zero_le _⟩
  | d :: ds, h => by
    obtain ⟨h1, h2, h3, h4, h5⟩ := Fit.all (ds := ds) fun x hx => h x (List.mem_cons_of_mem _ hx)
    have f := h d List.mem_cons_self
    refine ⟨?_, ?_, ?_, ?_, ?_⟩
    · show (d.canLay0 && PyData.canLayAll0 ds) = true; rw [f.lay, h1]; rfl
    · show (d.intsShort 13 && PyData.intsShortAll 13 ds) = true; rw [f.int, h2]; rfl
    · show (d.showable && PyData.showableAll ds) = true; rw [f.sho, h3]; rfl
    · have e : PyData.depthAll (d :: ds) = max d.depth (PyData.depthAll ds) ∨ PyData.depthAll (d :: ds) ≤ max (d.depth + 1) (PyData.depthAll ds) := by
        first | exact .inl rfl | exact .inr (by unfold PyData.depthAll; omega)
      have := f.dep
      rcases e with e | e
      · rw [e]; omega
      · omega
    · show d.weight + 1 + PyData.weightAll ds ≤ _
      have := f.wei
      rw [List.length_cons, Nat.add_mul]
      omega
theorem Fit.tup {k n m : Nat} {ds : List PyData} (h : ∀ d ∈ ds, Fit k n d) (hm : ds.length ≤ m) : Fit (k + 2) (m * (n + 1)) (.tuple ds) := by
  obtain ⟨h1, h2, h3, h4, h5⟩ := Fit.all h
  refine ⟨h1, h2, h3, ?_, Nat.le_trans h5 (Nat.mul_le_mul_right _ hm)⟩
  show PyData.depthAll ds + 1 ≤ _
  omega
theorem Fit.lst {k n m : Nat} {ds : List PyData} (h : ∀ d ∈ ds, Fit k n d) (hm : ds.length ≤ m) : Fit (k + 2) (m * (n + 1)) (.list ds) := by
  obtain ⟨h1, h2, h3, h4, h5⟩ := Fit.all h
  refine ⟨h1, h2, h3, ?_, Nat.le_trans h5 (Nat.mul_le_mul_right _ hm)⟩
  show PyData.depthAll ds + 1 ≤ _
  omega
theorem Fit.size {k n : Nat} {d : PyData} (f : Fit k n d) (hn : n ≤ 1000000) : d.shown.length ≤ sizeLine := by
  have h := PyData.shown_le 13 (by decide) d (PyData.leavesShort_of_canLay0 13 d f.lay f.int)
  have := f.wei
  have e : sizeLine = 16777216 := rfl
  omega
theorem Fit.shaped {k n : Nat} {d : PyData} (f : Fit k n d) (hk : k ≤ 60) (h : (∃ ds, d = .tuple ds) ∨ ∃ ds, d = .list ds) : SeqAt.shaped d = true := by
  rcases h with ⟨ds, rfl⟩ | ⟨ds, rfl⟩
  · show (PyData.canLayAll0 ds && decide (PyData.depthAll ds + 1 ≤ 64)) = true
    have h1 : PyData.canLayAll0 ds = true := f.lay
    have h2 : PyData.depthAll ds + 1 ≤ k := f.dep
    rw [h1, Bool.true_and, decide_eq_true_eq]; omega
  · show (PyData.canLayAll0 ds && decide (PyData.depthAll ds + 1 ≤ 64)) = true
    have h1 : PyData.canLayAll0 ds = true := f.lay
    have h2 : PyData.depthAll ds + 1 ≤ k := f.dep
    rw [h1, Bool.true_and, decide_eq_true_eq]; omega
section
variable {X : Cx} {j : Nat}
theorem call_reprF (gd : X.A.guards = some []) (room : Room j X.A) (K : PySem.W.Frag) (hK : X.K = K := by rfl) : CallR X (.builtin "repr") (fun xs H Q => ∃ (a : Addr) (d : PyData) (k n : Nat), xs = [.ref a] ∧ Dp K H (.ref a) d ∧ Fit k n d ∧ k ≤ 60 ∧ n ≤ 1000000 ∧ Q (.str d.shown) H) := by
  subst hK
  intro pins s σ H xs us Q I rel want
  obtain ⟨a, d, k, n, rfl, hd, f, hk, hn, q⟩ := want
  exact call_reprG gd room pins s σ H _ us Q I rel ⟨a, d, rfl, hd, f.sho, PyData.hasDict_of_canLay d f.lay, Nat.le_trans f.dep hk, f.size hn, q⟩
end
mutual
theorem Dp.same {K : PySem.W.Frag} {H H' : Hp} (s : Same H H') : ∀ {d : PyData} {v : V}, Dp K H v d → Dp K H' v d
  | .none, _, h => by cases h; exact .non
  | .bool _, _, h => by cases h; exact .bl _
  | .int _, _, h => by cases h; exact .int _
  | .str _, _, h => by cases h; exact .str _
  | .list _, _, h => by cases h with | lst q r => exact .lst (s.seq q) (DpAll.same s r)
  | .tuple _, _, h => by cases h with | tup q r => exact .tup (sm_seqT s q) (DpAll.same s r)
  | .dict _, _, h => by cases h
theorem DpAll.same {K : PySem.W.Frag} {H H' : Hp} (s : Same H H') : ∀ {ds : List PyData} {vs : List V}, DpAll K H vs ds → DpAll K H' vs ds
  | [], _, h => by cases h; exact .nil
  | _ :: _, _, h => by cases h with | cons q r => exact .cons (Dp.same s q) (DpAll.same s r)
end
theorem dpAll_get {K : PySem.W.Frag} {H : Hp} {α : Type} {f : α → V} {g : α → PyData} : ∀ {xs : List α}, (∀ x ∈ xs, Dp K H (f x) (g x)) → DpAll K H (xs.map f) (xs.map g)
  | [], _ => .nil
  | x :: xs, h => .cons (h x List.mem_cons_self) (dpAll_get fun y hy => h y (List.mem_cons_of_mem _ hy))
end LX
set_option maxHeartbeats 2000000
namespace LX
open PySem PySem.Spec PyProof.Rows L2 C8 SX
section
variable {X : Cx}
theorem pe_joinK (K : PySem.W.Frag) {o e : Expr} {to te : TE} {apos pos : Pos} (ho : PE X o to) (he : PE X e te) (hK : X.K = K := by rfl) (hs : starEach [e] X.env = [(false, eval e X.env)] := by rfl) (hbase : attributeBase o "join" X.env (eval o X.env) = eval o X.env := by rfl) (hline : (apos.endLine == pos.line) = true := by rfl) :
    PE X (.Call (.Attribute o "join" apos) [e] [] pos) (tM1 (fun x xs H Q => ∃ a p, ∃ ys : List Str, x = .str a ∧ xs = [.ref p] ∧ (SqL K H p (ys.map V.str) ∨ SqT K H p (ys.map V.str)) ∧
      (ys.map (·.length)).sum + ys.length * a.length ≤ 16777216 ∧ Q (.str (Txt.join a ys)) H) to te) := by subst hK; exact pe_join ho he hs hbase hline
end
def tJd (ts : List TE) : TE := fun σ H Q => tJs ts Str.empty σ H fun out H1 => Q (.str out) H1
theorem pe_joinedD {X : Cx} {v1 v2 : Expr} {rest : List Expr} {ts : List TE} {pos : Pos} (h : PJ X (v1 :: v2 :: rest) ts) : PE X (.JoinedStr (v1 :: v2 :: rest) pos) (tJd ts) := pe_joined h
theorem joinL_len {sep : List Nat} {m : Nat} : ∀ {ys : List (List Nat)}, (∀ y ∈ ys, y.length ≤ m) → (TL.joinL sep ys).length ≤ ys.length * (m + sep.length)
  | [], _ => by simp [TL.joinL]
  | [y], h => by
    have := h y List.mem_cons_self
    simp [TL.joinL]
    omega
  | y :: z :: ys, h => by
    have ih := joinL_len (sep := sep) (ys := z :: ys) fun x hx => h x (List.mem_cons_of_mem _ hx)
    have h1 := h y List.mem_cons_self
    have e : TL.joinL sep (y :: z :: ys) = y ++ sep ++ TL.joinL sep (z :: ys) := by simp [TL.joinL]
    rw [e, List.length_append, List.length_append, List.length_cons, Nat.add_mul]
    omega
theorem sum_lens {m : Nat} : ∀ {ys : List (List Nat)}, (∀ l ∈ ys, l.length ≤ m) → ((ys.map S).map (·.length)).sum ≤ ys.length * m
  | [], _ => by simp
  | y :: ys, h => by
    have ih := sum_lens (m := m) (ys := ys) fun l hl => h l (List.mem_cons_of_mem _ hl)
    have h0 := h y List.mem_cons_self
    simp only [List.map_cons, List.sum_cons, List.length_cons]
    rw [S_len, Nat.add_mul]
    omega
theorem joinS_ok {m n : Nat} {sep : List Nat} {ys : List (List Nat)} (h : ∀ l ∈ ys, l.length ≤ m) (hn : ys.length ≤ n) (hm : n * (m + sep.length) ≤ 16000000) : ((ys.map S).map (·.length)).sum + (ys.map S).length * (S sep).length ≤ 16777216 := by
  rw [S_len, List.length_map]
  have := sum_lens h
  have h2 : ys.length * (m + sep.length) ≤ n * (m + sep.length) := Nat.mul_le_mul_right _ hn
  rw [Nat.mul_add] at h2
  omega
end LX
set_option maxHeartbeats 2000000
namespace LX
open PySem PySem.Spec PyProof.Rows L2 C8 SX
section
variable {X : Cx} {k j : Nat} {C : Addr} {sp : Sp}
theorem met_runV {mth : Str} {pins : List (Addr × Obj)} {σ : L2.St} {H : Hp} {s : Shared} {A : Around} {a : Addr} {y : V} {u : Value} {Q : Value → Shared → Prop} (c : Met X.prog X.w X.K X.mg X.base k C mth sp []) (hr : Room k A) (hfr : A.frames = X.A.frames) (I : Inv X pins σ H s) (ry : RelV y u)
    {R : VK} (hsp : sp [.ref a, y] H R C8.E0) (hQ : ∀ v z H' s', Inv X pins σ H' s' → RelV z v → R z H' → Q v s') :
    ∃ f, PySem.W.findIn X.K (.ref C) mth = some (some (.ref f)) ∧ PySem.W.isFn X.K (.ref f) = true ∧ wpAny (model X.prog X.w) A (call (.ref f) [.ref a, u]) Q X.xe s := by
  obtain ⟨f, fd, ps, ds, hc, hm, F, hb, hd⟩ := c.ex
  refine ⟨f, hm.at_, hm.fn, ?_⟩
  have e0 : Env0 X.prog X.w X.K X.mg X.base A X.stack s H := by
    have e := I.env0
    exact ⟨by rw [hfr]; exact e.frames, e.mod, e.bs, e.bsz, e.funs, e.frf, e.hok, e.bare⟩
  have hds : ds = [] := by cases hd; rfl
  subst hds
  have hl := F.len _ _ _ _ hsp
  have r2 : Vals [V.ref a, y] [Value.ref a, u] := .cons rfl (.cons ry .nil)
  refine wpAny_call (codeAny_mono (F.run A X.stack s H ⟨[.ref a, u], []⟩ [.ref a, u] [.ref a, y] _ C8.E0 hr e0 (by
    have := hb s [.ref a, u] I.kIn (by simpa using hl)
    simpa using this) r2 hsp) fun r s' hq => ?_)
  cases r with
  | error e => exact C8.pass0 (E := C8.E0) pins σ H s e s' I hq
  | ok fl =>
    cases fl with
    | ret w =>
      obtain ⟨z, H', I', rz, q⟩ := I.after hq
      exact hQ w z H' s' I' rz q
    | next => exact False.elim hq
    | brk => exact False.elim hq
    | cont => exact False.elim hq
def rEqIV (K : PySem.W.Frag) (C : Addr) (sp : Sp) : R2 := fun x y H Q => ∃ a dx fs t, x = .ref a ∧ H a = some (.ins C dx fs) ∧ TyX K H y t ∧ PySem.W.notFirst K C t = true ∧ sp [.ref a, y] H (fun v H' => ∃ r, v = .bl r ∧ Q (.bl r) H') C8.E0
theorem op_eqIV (c : Met X.prog X.w X.K X.mg X.base k C "__eq__" sp []) (hr : Room j X.A) (hk : k ≤ j) : OpR X (compareOp .Eq) (rEqIV X.K C sp) := by
  intro pins s σ H x y v u Q I rx ry h
  obtain ⟨a, dx, fs, t, rfl, ha, hty, hnf, hsp⟩ := h
  cases rx
  obtain ⟨mA, J, _⟩ := ins_get I.hok ha
  obtain ⟨od, J, _⟩ := J.look
  obtain ⟨m, hF⟩ := I.fr
  obtain ⟨P, kx, hP, _⟩ := kit_of I ry hty
  obtain ⟨f, hs, hf, hw⟩ := met_runV (Q := PySem.W.CmpBack (EP X pins σ Q)) c (hr.mono hk) rfl I ry hsp (fun v z H' s' I' rz q => by
    obtain ⟨r, rfl, q⟩ := q
    cases rz
    exact ⟨.bl r, H', I', rfl, q⟩)
  exact PySem.W.cmp_K (op := .Eq) (tb := t) hr.units0 hF I.ok.mod.kin J (kx.ty _ _ I.kIn hP) hnf hs hf hw
theorem op_eqDK (K : PySem.W.Frag) (hr : Room j X.A) (h : X.K = K := by rfl) : OpR X (compareOp .Eq) (rEqD K) := by subst h; exact op_eqD hr.units
theorem op_neDK (K : PySem.W.Frag) (hr : Room j X.A) (h : X.K = K := by rfl) : OpR X (compareOp .NotEq) (rNeD K) := by subst h; exact op_neD hr.units
end
def tD (xs : List (List Nat)) : PyData := .tuple (xs.map fun l => .str (S l))
def ttD (xss : List (List (List Nat))) : PyData := .tuple (xss.map tD)
theorem dp_t {K : PySem.W.Frag} {H : Hp} {a : Addr} {xs : List (List Nat)} (h : SqT K H a (txs xs)) : Dp K H (.ref a) (tD xs) := .tup h (dp_strs xs)
theorem eqv_t (xs ys : List (List Nat)) : PyData.eqv (tD xs) (tD ys) = decide (xs = ys) := eqv_strs xs ys
theorem eqv_tts : ∀ xss yss : List (List (List Nat)), PyData.eqvAll (xss.map tD) (yss.map tD) = decide (xss = yss)
  | [], [] => rfl
  | [], _ :: _ => rfl
  | _ :: _, [] => rfl
  | x :: xs, y :: ys => by
    show (PyData.eqv (tD x) (tD y) && PyData.eqvAll (xs.map tD) (ys.map tD)) = _
    rw [eqv_t, eqv_tts xs ys, ← Bool.decide_and]
    exact decide_eq_decide.mpr (by rw [List.cons.injEq])
theorem eqv_tt (xss yss : List (List (List Nat))) : PyData.eqv (ttD xss) (ttD yss) = decide (xss = yss) := eqv_tts xss yss
theorem fit_t {m n : Nat} {xs : List (List Nat)} (hs : Small xs) (hl : ∀ l ∈ xs, l.length ≤ n) (hm : xs.length ≤ m) : Fit 2 (m * (n + 1)) (tD xs) :=
  Fit.tup (k := 0) (n := n) (fun d hd => by obtain ⟨l, hl', rfl⟩ := List.mem_map.mp hd; exact Fit.text (hs l hl') (hl l hl')) (by rw [List.length_map]; exact hm)
theorem fit_tt {m n p : Nat} {xss : List (List (List Nat))} (h : ∀ xs ∈ xss, Small xs ∧ (∀ l ∈ xs, l.length ≤ n) ∧ xs.length ≤ m) (hp : xss.length ≤ p) : Fit 4 (p * (m * (n + 1) + 1)) (ttD xss) :=
  Fit.tup (k := 2) (fun d hd => by obtain ⟨xs, hx, rfl⟩ := List.mem_map.mp hd; obtain ⟨h1, h2, h3⟩ := h xs hx; exact fit_t h1 h2 h3) (by rw [List.length_map]; exact hp)
end LX
set_option maxHeartbeats 2000000
namespace LX
open PySem PySem.Spec PyProof.Rows L2 C8 SX
section
variable {X : Cx}
def tRevLX (K : PySem.W.Frag) (te ts : TE) : TE := fun σ H Q => te σ H fun x H1 => ts σ H1 fun y H2 => ∃ i, y = .int i ∧ (some i = some (-1) ∧ ∃ (a : Addr) (xs : List V), x = .ref a ∧ SqL K H2 a xs ∧ ∀ p, H2 p = none → Q (.ref p) (upd H2 p (.lst xs.reverse)))
theorem pe_revLX {e st : Expr} {te ts : TE} {p3 pos : Pos} (K : PySem.W.Frag) (he : PE X e te) (hs : PE X st ts) (hK : X.K = K := by rfl) : PE X (.Subscript e (.Slice none none (some st) p3) pos) (tRevLX K te ts) := by
  subst hK
  refine ⟨fun pins s σ H Q I h => ?_⟩
  refine Subscript_ (thn (he.run pins s σ H _ I h) fun v s1 ⟨x, H1, I1, r1, q1⟩ => ?_)
  have hst : PO X (some st) (tPart ts) := po_some hs
  refine wpAny_Slice (thn (po_none.run pins s1 σ H1 (fun o H2 => o = none ∧ H2 = H1) I1 ⟨rfl, rfl⟩) fun vl s2 ⟨l, H2, I2, pl, el, e2⟩ => ?_)
  subst el e2
  refine thn (po_none.run pins s2 σ H2 (fun o H3 => o = none ∧ H3 = H2) I2 ⟨rfl, rfl⟩) fun vu s3 ⟨u, H3, I3, pu, eu, e3⟩ => ?_
  subst eu e3
  refine thn (hst.run pins s3 σ H3 (fun o H4 => o = some (-1) ∧ ∃ (a : Addr) (xs : List V), x = .ref a ∧ SqL X.K H4 a xs ∧ ∀ p, H4 p = none → Q (.ref p) (upd H4 p (.lst xs.reverse))) I3 q1) fun vs s4 ⟨o, H4, I4, ps, eo, a, xs, ex, hx, q⟩ => ?_
  subst eo ex
  cases r1
  have I5 : Inv X pins σ H4 { s4 with heap := s4.heap.push { cls := .type "slice", data := .fields #[vl, vu, vs] } } := I4.kept (t' := s4.toks) fun b ob q => Heap.get?_push_of_some _ q
  obtain ⟨its, r, ht, hz⟩ := I5.list hx
  have hlen := r.length
  show wpAny (model X.prog X.w) X.A (subscriptTail e (.Slice none none (some st) p3) (.ref a) (.ref s4.heap.objs.size)) (EP X pins σ Q) X.xe { s4 with heap := s4.heap.push { cls := .type "slice", data := .fields #[vl, vu, vs] } }
  refine tail_any (ops := [.ref a, .ref s4.heap.objs.size]) ht.isList.typeIs (PySem.slot_list_getitem.lookup) ?_ (by with_unfolding_all rfl)
  refine wpAny_getItem_list_slice ht.isList (Heap.IsSliceOf.new _ vl vu vs) pl pu ps (by decide) ?_ (by rw [List.size_toArray]; omega)
  rw [PySem.W.krv_pick]
  refine ⟨.ref _, _, I5.laid (t' := s4.toks) (o := .lst xs.reverse) (fun b ob q => Heap.get?_push_of_some _ q) (Nat.le_refl _) ?_, rfl, q _ (I5.hok.fresh (Nat.le_refl _))⟩
  exact ⟨by rw [List.length_reverse]; exact hz, _, 0, r.reverse, Heap.get?_push_size _ rfl⟩
end
def NL (H H' : Hp) : Prop := ∀ a o, H a = some o → (∀ xs, o ≠ .lst xs) → H' a = some o
theorem NL.refl (H : Hp) : NL H H := fun _ _ e _ => e
theorem NL.trans {H H1 H2 : Hp} (p : NL H H1) (q : NL H1 H2) : NL H H2 := fun a o e n => q a o (p a o e n) n
theorem nl_same {H H' : Hp} (s : Same H H') : NL H H' := fun a o e _ => s a o e
theorem nl_lset {H : Hp} {a : Addr} {xs ys : List V} (h : H a = some (.lst xs)) : NL H (upd H a (.lst ys)) := fun b o e n => by
  rw [upd_ne (fun z => by rw [z, h] at e; exact n xs (Option.some.inj e).symm)]; exact e
end LX
set_option maxHeartbeats 2000000
namespace LX
open PySem PySem.Spec PyProof.Rows L2 C8 SX
section
variable {X : Cx} {k j : Nat} {C : Addr} {sp : Sp}
theorem met_run0 {mth : Str} {pins : List (Addr × Obj)} {σ : L2.St} {H : Hp} {s : Shared} {A : Around} {a : Addr} {Q : Value → Shared → Prop} (c : Met X.prog X.w X.K X.mg X.base k C mth sp []) (hr : Room k A) (hfr : A.frames = X.A.frames) (I : Inv X pins σ H s)
    {R : VK} (hsp : sp [.ref a] H R C8.E0) (hQ : ∀ v z H' s', Inv X pins σ H' s' → RelV z v → R z H' → Q v s') :
    ∃ f, PySem.W.findIn X.K (.ref C) mth = some (some (.ref f)) ∧ PySem.W.isFn X.K (.ref f) = true ∧ wpAny (model X.prog X.w) A (call (.ref f) [.ref a]) Q X.xe s := by
  obtain ⟨f, fd, ps, ds, hc, hm, F, hb, hd⟩ := c.ex
  refine ⟨f, hm.at_, hm.fn, ?_⟩
  have e0 : Env0 X.prog X.w X.K X.mg X.base A X.stack s H := by
    have e := I.env0
    exact ⟨by rw [hfr]; exact e.frames, e.mod, e.bs, e.bsz, e.funs, e.frf, e.hok, e.bare⟩
  have hds : ds = [] := by cases hd; rfl
  subst hds
  have hl := F.len _ _ _ _ hsp
  have r2 : Vals [V.ref a] [Value.ref a] := .cons rfl .nil
  refine wpAny_call (codeAny_mono (F.run A X.stack s H ⟨[.ref a], []⟩ [.ref a] [.ref a] _ C8.E0 hr e0 (by
    have := hb s [.ref a] I.kIn (by simpa using hl)
    simpa using this) r2 hsp) fun r s' hq => ?_)
  cases r with
  | error e => exact C8.pass0 (E := C8.E0) pins σ H s e s' I hq
  | ok fl =>
    cases fl with
    | ret w =>
      obtain ⟨z, H', I', rz, q⟩ := I.after hq
      exact hQ w z H' s' I' rz q
    | next => exact False.elim hq
    | brk => exact False.elim hq
    | cont => exact False.elim hq
theorem call_strI (c : Met X.prog X.w X.K X.mg X.base k C "__str__" sp []) (hr : Room j X.A) (hk : k + 2 ≤ j) : CallR X (.type "str") (fun xs H Q => ∃ a dx fs, xs = [.ref a] ∧ H a = some (.ins C dx fs) ∧ sp [.ref a] H (fun v H' => ∃ z, v = .str z ∧ Q (.str z) H') C8.E0) := by
  intro pins s σ H xs us Q I rel want
  obtain ⟨a, dx, fs, rfl, ha, hsp⟩ := want
  obtain ⟨u, rfl, ru⟩ := vals1 rel
  cases ru
  obtain ⟨mA, J, _⟩ := ins_get I.hok ha
  obtain ⟨od, J, _⟩ := J.look
  have r2 : Room k X.A.in1.in1 := (hr.mono hk).in1.in1
  obtain ⟨f, hs, hf, hw⟩ := met_run0 (A := X.A.in1.in1) (Q := PySem.W.StrBack (EP X pins σ Q)) c r2 rfl I hsp (fun v z H' s' I' rz q => by
    obtain ⟨y, rfl, q⟩ := q
    obtain ⟨t, rfl⟩ := rz
    exact ⟨.str y, H', I', ⟨t, rfl⟩, q⟩)
  exact PySem.W.kso_call r2.units0 I.kIn J hs hf hw
end
end LX
set_option maxHeartbeats 4000000
namespace LX
open PySem PySem.Spec PyProof.Rows L2 C8 SX
abbrev NoCode : Obj := { cls := .none, data := .fields #[] }
abbrev ListO (vs : List Value) : Obj := { cls := .type "list", data := .seq vs.toArray }
structure Tabbing (K : PySem.W.Frag) (mg : Str → Option Value) (h : Heap) (tt : List (Addr × Addr)) : Prop where
  empty : ∀ p ∈ tt, h.get? p.2 = some NoCode
  loose : ∀ p ∈ tt, K.lookup p.2 = none
  code : ∀ p ∈ tt, PySem.W.CodeHd h p.1 p.2
  bm : ∃ (m : Addr) (o : Obj), mg "__builtins__" = some (.ref m) ∧ m ≠ builtinsNs ∧ h.get? m = some o ∧ o.cls = .type "module" ∧ o.dict = some builtinsNs ∧ o.data = .plain
section
variable {P : Program} {w : World} {K : PySem.W.Frag} {mg mb : Str → Option Value} {k : Nat} {fa a : Addr} {fd : FuncData} {x : Str} {sp : Sp} {s : Shared} {vs : List Value} {ns : List Int} {tt : List (Addr × Addr)}
theorem lawGT_at {H : Hp} (tb : Tabbing K mg s.heap tt) (KX : K.In s.heap) (names : s.heap.Ns mainGlobals mg) (bnames : s.heap.Ns builtinsNs mb) (boot : ∀ x : Str, x ≠ "__name__" → mb x = bootBuiltins x) (lim : s.heap.NoLimit) (gens : s.gens = #[])
    (script : s.heap.get? a = some (ListO vs)) (room : Room k callerA) (F : ∀ base : Heap, K.In base → base.Ns mainGlobals mg → (∀ p ∈ tt, LamX.TabB base mg p.1 p.2) → FnG P w K mg base k fa fd [x] sp)
    (binds : ∀ (s : Shared) (u : Value), BindsTo s fd ⟨[u], []⟩ [(x, u)]) (want : sp [.ref a] H (fun v _ => v = .bl true) C8.E0) (ok : HOk P w H s.heap) (tabs : ∀ p ∈ tt, H p.2 = some (.tbl #[]))
    (here : ∀ b u, H b = some u → (b = a ∧ ∃ o xs, u = .frz o (.lst xs)) ∨ ∃ p ∈ tt, p.2 = b) (notK : H a ≠ none → K.lookup a = none) :
    codeAny (model P w) callerA (.call (.ref fa) ⟨[.ref a], []⟩) (fun r s' => Done s s' r) s := by
  have off_script : ∀ p ∈ tt, p.2 ≠ a := fun p hp e => by
    have q := tb.empty p hp
    rw [e, script] at q
    have q2 : Data.seq vs.toArray _ = Data.fields #[] := congrArg Obj.data (Option.some.inj q)
    cases q2
  have clear_of : ∀ {b : Addr} {o : Obj}, s.heap.get? b = some o → o ≠ ListO vs → o ≠ NoCode → H b = none := fun {b o} e n1 n2 => by
    cases q : H b with
    | none => rfl
    | some u =>
      rcases here b u q with ⟨rfl, _⟩ | ⟨p, hp, rfl⟩
      · rw [script] at e; exact absurd (Option.some.inj e).symm n1
      · rw [tb.empty p hp] at e; exact absurd (Option.some.inj e).symm n2
  have see : ∀ {b : Addr} {o : Obj}, s.heap.get? b = some o → o ≠ ListO vs → o ≠ NoCode → (hidT s.heap H).get? b = some o := fun e n1 n2 => hidT_get e (clear_of e n1 n2)
  have names_see : ∀ {b : Addr} {m : Str → Option Value}, s.heap.Ns b m → (hidT s.heap H).Ns b m := fun {b m} ⟨o, es, ep, e, d, r⟩ =>
    ⟨o, es, ep, see e (fun z => by rw [z] at d; cases d) (fun z => by rw [z] at d; cases d), d, r⟩
  have KH : K.In (hidT s.heap H) := fun b o e => hidT_get (KX b o e) (by
    cases q : H b with
    | none => rfl
    | some u =>
      rcases here b u q with ⟨rfl, _⟩ | ⟨p, hp, rfl⟩
      · rw [notK (by rw [q]; simp)] at e; cases e
      · rw [tb.loose p hp] at e; cases e)
  have md : Mod K mg (hidT s.heap H) := by
    obtain ⟨mc, c1, c2⟩ := lim
    exact ⟨KH, names_see names, ⟨mb, names_see bnames, boot⟩, mc, names_see c1, c2⟩
  have based : ∀ p ∈ tt, LamX.TabB (hidT s.heap H) mg p.1 p.2 := fun p hp => by
    have none_at : ∀ {o : Obj}, s.heap.get? p.2 = some o → o = NoCode := fun e => by rw [tb.empty p hp] at e; exact (Option.some.inj e).symm
    constructor
    · obtain ⟨o, us, fl, t1, fg, t2, bf, tx, t3, e, cls, dat, at11, rest⟩ := tb.code p hp
      exact ⟨o, us, fl, t1, fg, t2, bf, tx, t3, see e (fun z => by rw [z] at dat; cases dat) (fun z => by rw [z] at dat; cases dat; simp at at11), cls, dat, at11, rest⟩
    · obtain ⟨m, o, named, apart, e, cls, dct, dat⟩ := tb.bm
      refine ⟨m, o, named, apart, fun z => ?_, fun z => ?_, see e (fun z => by rw [z] at dat; cases dat) (fun z => by rw [z] at dat; cases dat), cls, dct, dat⟩
      · obtain ⟨o2, es, ep, e2, d2, _⟩ := names
        rw [z, e2] at e
        cases e
        rw [d2] at dat
        cases dat
      · rw [z] at e
        rw [none_at e] at dat
        cases dat
    · intro z
      obtain ⟨o2, es, ep, e2, d2, _⟩ := names
      rw [z] at e2
      rw [none_at e2] at d2
      cases d2
  have e0 : Env0 P w K mg (hidT s.heap H) callerA [] s H := ⟨rfl, md, fun _ _ e => of_hidT e, Nat.le_of_eq (hidT_size _ _), trivial, fun _ hm => absurd hm (List.not_mem_nil), ok, .of_eq gens⟩
  refine codeAny_mono ((F _ KH (names_see names) based).goes callerA [] s H ⟨[.ref a], []⟩ [.ref a] [.ref a] _ _ rfl room e0 (binds s (.ref a)) (.cons rfl .nil) want) fun r t got => ?_
  match r, got with
  | .ok (.ret u), got =>
    obtain ⟨v, H2, os, bare, un, ok2, rel, is_true⟩ := got
    obtain rfl : v = V.bl true := is_true
    obtain rfl : u = Value.bool true := rel
    have stays : ∀ b o, (∀ p ∈ tt, p.2 ≠ b) → s.heap.get? b = some o → t.heap.get? b = some o := fun b o away e => by
      cases q : H b with
      | none => exact un.keep b o e q (fun z => absurd z List.not_mem_nil) (by simp)
      | some u =>
        rcases here b u q with ⟨_, ob, xs, rfl⟩ | ⟨p, hp, z⟩
        · obtain ⟨e1, _⟩ := ok b _ q
          obtain ⟨e2, _⟩ := ok2 b _ (un.frzs b ob _ q)
          rw [e] at e1
          cases e1
          exact e2
        · exact absurd z (away p hp)
    have more : ∀ p ∈ tt, ∃ us : Array Value, t.heap.get? p.2 = some { cls := .none, data := .fields us } := fun p hp => by
      obtain ⟨us, z⟩ := un.tbls p.2 #[] (tabs p hp)
      exact ⟨_, ok2 p.2 _ z⟩
    refine ⟨rfl, ⟨fun b o e => ?_, fun b o e => ?_⟩, os, bare⟩
    · by_cases q : ∃ p ∈ tt, p.2 = b
      · obtain ⟨p, hp, rfl⟩ := q
        obtain ⟨us, eu⟩ := more p hp
        have e1 := tb.empty p hp
        rw [e] at e1
        cases e1
        exact .inr (.inl ⟨((tb.code p hp).tab (tb.empty p hp)).isCodeTable, rfl, #[], us, rfl, by rw [Array.empty_append]; exact eu⟩)
      · exact .inl (stays b o (fun p hp z => q ⟨p, hp, z⟩) e)
    · by_cases q : ∃ p ∈ tt, p.2 = b
      · obtain ⟨p, hp, rfl⟩ := q
        obtain ⟨us, eu⟩ := more p hp
        exact ⟨_, eu⟩
      · exact ⟨o, stays b o (fun p hp z => q ⟨p, hp, z⟩) e⟩
open Classical in
theorem lawGT_call (tb : Tabbing K mg s.heap tt) (KX : K.In s.heap) (names : s.heap.Ns mainGlobals mg) (bnames : s.heap.Ns builtinsNs mb) (boot : ∀ x : Str, x ≠ "__name__" → mb x = bootBuiltins x) (lim : s.heap.NoLimit) (gens : s.gens = #[])
    (script : s.heap.get? a = some (ListO vs)) (nums : IntsAre vs ns) (few : ns.length ≤ sizeLine) (room : Room k callerA) (F : ∀ base : Heap, K.In base → base.Ns mainGlobals mg → (∀ p ∈ tt, LamX.TabB base mg p.1 p.2) → FnG P w K mg base k fa fd [x] sp)
    (binds : ∀ (s : Shared) (u : Value), BindsTo s fd ⟨[u], []⟩ [(x, u)]) (want : ∀ H : Hp, (∀ p ∈ tt, H p.2 = some (.tbl #[])) → SqL K H a (ns.map V.int) → sp [.ref a] H (fun v _ => v = .bl true) C8.E0) :
    codeAny (model P w) callerA (.call (.ref fa) ⟨[.ref a], []⟩) (fun r s' => Done s s' r) s := by
  have rel := vals_ints nums
  have isT : ∀ b, (∃ p ∈ tt, p.2 = b) → s.heap.get? b = some NoCode := fun b ⟨p, hp, e⟩ => e ▸ tb.empty p hp
  let T : Hp := fun b => if ∃ p ∈ tt, p.2 = b then some (.tbl #[]) else none
  have T_in : ∀ {b u}, T b = some u → (∃ p ∈ tt, p.2 = b) ∧ u = .tbl #[] := fun {b u} z => by
    by_cases q : ∃ p ∈ tt, p.2 = b
    · exact ⟨q, (Option.some.inj ((if_pos q).symm.trans z)).symm⟩
    · cases (if_neg q).symm.trans z
  have T_at : ∀ p ∈ tt, T p.2 = some (.tbl #[]) := fun p hp => if_pos ⟨p, hp, rfl⟩
  have a_off : ¬ ∃ p ∈ tt, p.2 = a := fun q => by
    have z := isT a q
    rw [script] at z
    have z2 : Data.seq vs.toArray _ = Data.fields #[] := congrArg Obj.data (Option.some.inj z)
    cases z2
  have T_ok : HOk P w T s.heap := fun b u z => by
    obtain ⟨q, rfl⟩ := T_in z
    exact isT b q
  cases own : K.lookup a with
  | some o =>
    have e := KX a o own
    rw [script] at e
    cases e
    exact lawGT_at tb KX names bnames boot lim gens script room F binds (want T T_at (.inr ⟨_, vs.toArray, _, own, rfl, rfl, rfl, by rw [List.size_toArray, nums.length]; exact few, by simpa using rel⟩)) T_ok T_at (fun b u z => .inr (T_in z).1)
      fun z => absurd (if_neg a_off : T a = none) z
  | none =>
    let one : HO := .frz (ListO vs) (.lst (ns.map V.int))
    let H : Hp := fun b => if b = a then some one else T b
    have at_a : H a = some one := if_pos rfl
    have off : ∀ {b}, b ≠ a → H b = T b := fun n => if_neg n
    refine lawGT_at tb KX names bnames boot lim gens script room F binds (want H (fun p hp => (off fun z => a_off ⟨p, hp, z⟩).trans (T_at p hp)) (.inl (.inr ⟨_, at_a⟩))) (fun b u z => ?_) (fun p hp => (off fun z => a_off ⟨p, hp, z⟩).trans (T_at p hp)) (fun b u z => ?_) fun _ => own
    · by_cases e : b = a
      · subst e
        rw [at_a] at z
        cases z
        exact ⟨script, by rw [List.length_map]; exact few, vs, _, rel, script⟩
      · rw [off e] at z
        obtain ⟨q, rfl⟩ := T_in z
        exact isT b q
    · by_cases e : b = a
      · subst e
        rw [at_a] at z
        exact .inl ⟨rfl, _, _, (Option.some.inj z).symm⟩
      · rw [off e] at z
        exact .inr (T_in z).1
end
theorem walkGT {l : PySem.W.OpenLaw} {n k : Nat} {q : Program} {loose : List Str} {XP : (Str → Option Value) → Heap → Prop} {YP : World → Heap → Prop} {d : DefRec} {K : Params → PySem.W.Frag} {sp : PySem.W.Frag → List (Addr × Addr) → Sp} {x : Str} (hn : l.most = some n) (hn2 : n ≤ sizeLine)
    (hdf : d.params.defaults = []) (room : Room k callerA) (hY : ∀ (w : World) (h : Heap), YP w h → (K w.params).In h)
    (F : ∀ (w : World) (mg : Str → Option Value) (fa : Addr) (h : Heap), (K w.params).In h → h.Ns mainGlobals mg → mg d.name = some (.ref fa) →
      ∃ (fd : FuncData) (tt : List (Addr × Addr)), (∀ p ∈ tt, (∃ (nm : Str) (e : DefRec), PySem.W.tabIn (K w.params) nm = some p ∧ (recsOf q).find? (fun e => e.name == nm) = some e) ∧ (K w.params).lookup p.2 = none) ∧
        (∀ (s : Shared) (u : Value), BindsTo s fd ⟨[u], []⟩ [(x, u)]) ∧ ∀ base : Heap, (K w.params).In base → base.Ns mainGlobals mg → (∀ p ∈ tt, LamX.TabB base mg p.1 p.2) → FnG l.prog w (K w.params) mg base k fa fd [x] (sp (K w.params) tt))
    (want : ∀ (K : PySem.W.Frag) (tt : List (Addr × Addr)) (H : Hp) (a : Addr) (ns : List Int), ns.length ≤ n → (∀ p ∈ tt, H p.2 = some (.tbl #[])) → SqL K H a (ns.map V.int) → sp K tt [.ref a] H (fun v _ => v = .bl true) C8.E0) : PySem.W.WalkO q loose XP YP l.row.toRowW d [] (fun f vs => PySem.call f vs) := by
  refine Att.attach_call hn hdf ?_
  intro w s0 s1 mg mb fa o pm cd doc a vs ns G Y _ _ _ named list_ nums few gens
  have KX := hY w _ Y
  obtain ⟨fd, tt, ht, bd, F1⟩ := F w mg fa _ KX G.T.g named
  have tb : Tabbing (K w.params) mg s1.heap tt := ⟨fun p hp => let ⟨⟨nm, e, t1, r1⟩, _⟩ := ht p hp; (PySem.W.tab_of G.T KX r1 t1).2, fun p hp => (ht p hp).2, fun p hp => let ⟨⟨nm, e, t1, r1⟩, _⟩ := ht p hp; (PySem.W.tab_of G.T KX r1 t1).1, G.T.bmain⟩
  exact lawGT_call tb KX G.T.g G.T.b G.T.builtins G.T.nolimit gens list_ nums (Nat.le_trans few hn2) room F1 bd fun H ht hs => want _ _ H a ns few ht hs
end LX
set_option maxHeartbeats 1000000
namespace Toy
open PySem L2 C8 SX LX
def top (i : Nat) : Stmt := PySem.Challenge.pw_allrows_k11_rows_read.main.body.getD i (.Pass ⟨0, 0, 0, 0⟩)
structure BT (mg : Str → Option Value) : Prop where
  m_int : mg "int" = none
  m_len : mg "len" = none
  m_abs : mg "abs" = none
  m_str : mg "str" = none
  m_list : mg "list" = none
  m_tuple : mg "tuple" = none
  m_dict : mg "dict" = none
  m_set : mg "set" = none
  m_isinstance : mg "isinstance" = none
  m_all : mg "all" = none
  m_zip : mg "zip" = none
  m_enumerate : mg "enumerate" = none
  m_range : mg "range" = none
  m_max : mg "max" = none
  m_min : mg "min" = none
  m_sorted : mg "sorted" = none
  m_repr : mg "repr" = none
local macro_rules | `(tactic| walk_at "c") => `(tactic| refine And.intro (by first | (show (0 : Int) < _; omega) | exact Or.inr ⟨by decide, by decide⟩ | exact Or.inl ⟨by decide, by decide⟩ | (exact ⟨by omega, by omega⟩)) ?_)
local macro_rules | `(tactic| walk_at "s1") => `(tactic| first | refine ⟨_, rfl, ?_⟩ | refine ⟨_, _, rfl, rfl, ?_⟩ | refine .inl ⟨_, rfl, ?_⟩ | walk_at "c")
local macro_rules | `(tactic| walk_at "ix") => `(tactic| refine ⟨_, _, _, _, rfl, rfl, SqL.of (by first | assumption | exact upd_same), rfl, ?_⟩)
local macro_rules | `(tactic| walk_at "s") => `(tactic| repeat (walk_at "s1"))
section
variable {P : Program} {w : World} {K : PySem.W.Frag} {mg : Str → Option Value} {base : Heap}
abbrev s_take : Stmt := top 30
abbrev n_take : List Str := ["box", "many", "digit"]
theorem sc_take : FnScope n_take ["box", "many"] (fnScope s_take) := fnScope_by (by decide +kernel)
def spTake : Sp := fun vs H Q _ => ∃ (b : Addr) (n : Int), vs = [.ref b, .int n] ∧ BoxAt b H ∧ 0 < n ∧ n < 1073741824 ∧
  ∀ (d : Int) (H' : Hp), 0 ≤ d → d < n → Bx b H H' → Q (.int d) H'
theorem ok_take (T : BT mg) {f : Addr} {fd : FuncData} (F : Def K mg "_law_take" s_take f fd) (b : Binds K fd ["box", "many"] []) : Cal P w K mg base 1 "_law_take" spTake [] := by
  refine cal0 F b .nil sc_take (fun vs H Q E h => ?_) (fun cdv A outer s H vs Q E hr h => ?_)
  · obtain ⟨b, n, rfl, _⟩ := h; rfl
  · obtain ⟨b, n, rfl, ⟨o, hb, x, y, z, rfl⟩, n0, n1, k⟩ := h
    refine ⟨_, (pss_cons (ps_if (pt_cmpR op_gt (pe_ix (ixl K) (pv 0) pe_int (fun _ _ => rfl)) pe_int (nomark _)) 
        (pss_cons (ps_set (i := 2) sc_take.nd rfl (.inl rfl) (pe_op op_mod (pe_callTy call_int1 (by rfl) T.m_int PyProof.Rows.boot_int (pa_cons (pe_ix (ixl K) (pv 0) pe_int (fun _ _ => rfl)) pa_nil)) (pv 1)))
        (pss_cons (ps_asg (pe_op op_fdiv (pe_ix (ixl K) (pv 0) pe_int (fun _ _ => rfl)) (pv 1)) (pg_sub (pv 0) pe_int set_list))
        (pss_one (ps_ret (pv 2))
        )))
       pss_nil)
      (pss_cons (ps_asg (pe_op op_add (pe_ix (ixl K) (pv 0) pe_int (fun _ _ => rfl)) pe_int) (pg_sub (pv 0) pe_int set_list))
      (pss_cons (ps_asg (pe_op op_mod (pe_callTy call_int1 (by rfl) T.m_int PyProof.Rows.boot_int (pa_cons (pe_op op_add (pe_op op_mul (pe_ix (ixl K) (pv 0) pe_int (fun _ _ => rfl)) pe_int) (pe_op op_mul pe_int (pe_ix (ixl K) (pv 0) pe_int (fun _ _ => rfl)))) pa_nil)) pe_int) (pg_sub (pv 0) pe_int set_list))
      (pss_one (ps_ret (pe_op op_mod (pe_callTy call_int1 (by rfl) T.m_int PyProof.Rows.boot_int (pa_cons (pe_op op_fdiv (pe_ix (ixl K) (pv 0) pe_int (fun _ _ => rfl)) pe_int) pa_nil)) (pv 1)))
      )))), ?_⟩
    walk_at "s"
    walk_at "ix"
    walk_at "s"
    refine ite2 (fun _ => ?_) (fun _ => ?_)
    · walk_at "s"
      walk_at "ix"
      walk_at "s"
      walk_at "ix"
      walk_at "s"
      refine ⟨_, _, _, _, rfl, rfl, hb, rfl, ?_⟩
      walk_at "s"
      exact k _ _ (Int.emod_nonneg _ (by omega)) (Int.emod_lt_of_pos _ n0) (Bx.mk _ _ _)
    · walk_at "s"
      walk_at "ix"
      walk_at "s"
      refine ⟨_, _, _, _, rfl, rfl, hb, rfl, ?_⟩
      walk_at "s"
      walk_at "ix"
      walk_at "s"
      walk_at "ix"
      walk_at "s"
      refine ⟨_, _, _, _, rfl, rfl, upd_same, rfl, ?_⟩
      walk_at "s"
      walk_at "ix"
      walk_at "s"
      exact k _ _ (Int.emod_nonneg _ (by omega)) (Int.emod_lt_of_pos _ n0) ((Bx.mk (x := x) (y := y) (z := z + 1)).trans (Bx.mk _ _ _))
abbrev s_pick : Stmt := top 31
abbrev n_pick : List Str := ["box", "some"]
theorem sc_pick : FnScope n_pick ["box", "some"] (fnScope s_pick) := fnScope_by (by decide +kernel)
def spPick : PySem.W.Frag → Sp := fun K vs H Q _ => ∃ (b l : Addr) (xs : List V), vs = [.ref b, .ref l] ∧ BoxAt b H ∧ l ≠ b ∧ SqL K H l xs ∧ 0 < xs.length ∧ xs.length < 1000 ∧
  ∀ (v : V) (H' : Hp), v ∈ xs → Bx b H H' → Q v H'
theorem ok_pick (T : BT mg) (c_take : Cal P w K mg base 1 "_law_take" spTake []) {f : Addr} {fd : FuncData} (F : Def K mg "_law_pick" s_pick f fd) (b : Binds K fd ["box", "some"] []) : Cal P w K mg base 2 "_law_pick" (spPick K) [] := by
  refine cal0 F b .nil sc_pick (fun vs H Q E h => ?_) (fun cdv A outer s H vs Q E hr h => ?_)
  · obtain ⟨b, l, xs, rfl, _⟩ := h; rfl
  · obtain ⟨b, l, xs, rfl, hb, hlb, hl, h0, h1, k⟩ := h
    refine ⟨_, (pss_one (ps_ret (pe_ix (ixl K) (pv 1) (pe_c c_take hr (by first | decide | omega) (by rfl) (pa_cons (pv 0) (pa_cons (pe_callB (lenK K) (by rfl) T.m_len PySem.boot_len (pa_cons (pv 1) pa_nil)) pa_nil))) (fun _ _ => rfl)))
      ), ?_⟩
    walk_at "s"
    refine ⟨_, _, rfl, .inl hl, ?_⟩
    refine ⟨b, (xs.length : Int), rfl, hb, by omega, by omega, fun d H' d0 d1 hB => ?_⟩
    have hd : d.toNat < xs.length := by omega
    refine ⟨_, _, _, xs[d.toNat], rfl, rfl, bk_seq hB hlb hl, ?_, ?_⟩
    · exact at_of (by omega) (List.getElem?_eq_getElem hd)
    · exact k _ _ (List.getElem_mem hd) hB
abbrev s_mixed : Stmt := top 32
abbrev n_mixed : List Str := ["box", "some", "rest", "found"]
theorem sc_mixed : FnScope n_mixed ["box", "some"] (fnScope s_mixed) := fnScope_by (by decide +kernel)
def spMixed : PySem.W.Frag → Sp := fun K vs H Q _ => ∃ (b l : Addr) (xs : List (List Nat)), vs = [.ref b, .ref l] ∧ BoxAt b H ∧ l ≠ b ∧ SqL K H l (txs xs) ∧ Small xs ∧ xs.length < 1000 ∧
  ∀ (ys : List (List Nat)) (p : Addr) (H' : Hp), ys.Perm xs → H p = none → Bx b H H' → H' p = some (.lst (txs ys)) → Q (.ref p) H'
theorem ok_mixed (T : BT mg) (c_take : Cal P w K mg base 1 "_law_take" spTake []) {f : Addr} {fd : FuncData} (F : Def K mg "_law_mixed" s_mixed f fd) (b : Binds K fd ["box", "some"] []) : Cal P w K mg base 2 "_law_mixed" (spMixed K) [] := by
  refine cal0 F b .nil sc_mixed (fun vs H Q E h => ?_) (fun cdv A outer s H vs Q E hr h => ?_)
  · obtain ⟨b, l, xs, rfl, _⟩ := h; rfl
  · obtain ⟨b, l, xs, rfl, hb, hlb, hl, hs, h1, k⟩ := h
    refine ⟨_, (pss_cons (ps_par (i := 2) (j := 3) rfl sc_mixed.nd rfl rfl (by decide) rfl rfl (pa_cons (pe_callTy (listK K) (by rfl) T.m_list PyProof.Rows.boot_list (pa_cons (pv 1) pa_nil)) (pa_cons (pe_lst pa_nil) pa_nil)) rfl)
      (pss_cons (ps_while PassesOwn.never (pt_cmpR (op_neSs hr) (pv 2) (pe_lst pa_nil) (nomark _)) 
        (pss_one (ps_expr (pe_bm PySem.F.plainAttrs_list PySem.F.slot_list_append PySem.F.type_list_append mt_append (pv 3) (pa_cons (pe_bm PySem.F.plainAttrs_list PySem.F.slot_list_pop PySem.F.type_list_pop mt_popAt (pv 2) (pa_cons (pe_c c_take hr (by first | decide | omega) (by rfl) (pa_cons (pv 0) (pa_cons (pe_callB (lenK K) (by rfl) T.m_len PySem.boot_len (pa_cons (pv 2) pa_nil)) pa_nil))) pa_nil)) pa_nil)))
        ))
      (pss_one (ps_ret (pv 3))
      ))), ?_⟩
    walk_at "s"
    refine nil1 ⟨_, _, rfl, .inl hl, fun p hp => ?_⟩
    have hpb := box_ne hb hp
    refine ⟨Nat.zero_le _, fun q hq => ?_⟩
    have hqp : q ≠ p := fun e => by rw [e, upd_same] at hq; cases hq
    have hq0 : H q = none := by rw [upd_ne hqp] at hq; exact hq
    have hqb := box_ne hb hq0
    refine nil1 ⟨_, _, rfl, ?_⟩
    refine ⟨fun m σ H' => ∃ rs fs : List (List Nat), m = rs.length ∧ σ = [some (.ref b), some (.ref l), some (.ref p), some (.ref q)] ∧ (rs ++ fs).Perm xs ∧ H' p = some (.lst (txs rs)) ∧ H' q = some (.lst (txs fs)) ∧ Bx b H H',
      ⟨xs.length, xs, [], rfl, rfl, by rw [List.append_nil], by rw [upd_ne hqp.symm, upd_same], by rw [upd_same]; rfl, Bx.put (Bx.put (bk_same (Same.refl H) hb) hb hp) hb hq0⟩, ?_⟩
    rintro m σ H' ⟨rs, fs, rfl, rfl, hperm, hrp, hrq, hB⟩
    have hsm : Small rs := fun r hr => hs r (hperm.subset (List.mem_append_left _ hr))
    have hlen : rs.length + fs.length = xs.length := by rw [← List.length_append]; exact hperm.length_eq
    refine ⟨_, rfl, Nat.zero_le _, fun t ht => ?_⟩
    have hB' : Bx b H (upd H' t (.lst [])) := Bx.put hB hb (hB.free ht)
    have hpt : p ≠ t := ne_of_none hrp ht
    have hqt : q ≠ t := ne_of_none hrq ht
    refine ⟨p, t, rs, [], rfl, rfl, .inl ⟨SqL.of (by rw [upd_ne hpt]; exact hrp), SqL.of upd_same⟩, hsm, (fun _ h => nomatch h), ?_⟩
    by_cases e : rs = []
    · refine ⟨_, rfl, iteN (by simp [e]) ?_⟩
      subst e
      refine ⟨_, rfl, ?_⟩
      exact k fs q _ hperm hq0 hB' (by rw [upd_ne hqt]; exact hrq)
    · refine ⟨_, rfl, iteB (by simp [e]) ?_⟩
      have hpos : 0 < rs.length := List.length_pos_iff.mpr e
      have hp' : upd H' t (.lst []) p = some (.lst (txs rs)) := by rw [upd_ne hpt]; exact hrp
      have hq' : upd H' t (.lst []) q = some (.lst (txs fs)) := by rw [upd_ne hqt]; exact hrq
      refine ⟨fun σ' H' => ∃ rs' fs' : List (List Nat), rs.length - 1 = rs'.length ∧ σ' = [some (.ref b), some (.ref l), some (.ref p), some (.ref q)] ∧ (rs' ++ fs').Perm xs ∧ H' p = some (.lst (txs rs')) ∧ H' q = some (.lst (txs fs')) ∧ Bx b H H',
        fun σ' H' h => ⟨rs.length - 1, by omega, h⟩, ?_⟩
      refine ⟨_, rfl, .inl ⟨rfl, _, SqL.of hq'⟩, ?_⟩
      refine ⟨_, rfl, .inl ⟨rfl, _, SqL.of hp'⟩, ?_⟩
      refine ⟨_, rfl, _, rfl, p, _, rfl, .inl (SqL.of hp'), ?_⟩
      rw [txs_len]
      refine ⟨b, (rs.length : Int), rfl, hB'.2, by omega, by omega, fun d H2 d0 d1 hB2 => ?_⟩
      have hpb2 : p ≠ b := hpb
      have hp2 : H2 p = some (.lst (txs rs)) := hB2.1 _ _ hpb hp'
      have hq2 : H2 q = some (.lst (txs fs)) := hB2.1 _ _ hqb hq'
      have hd : d.toNat < rs.length := by omega
      refine ⟨p, txs rs, d, d.toNat, .str (S rs[d.toNat]), rfl, rfl, hp2, by omega, by omega, by rw [txs_len]; exact PySem.seqIndex_of d0 (by omega), ?_, ?_⟩
      · unfold txs; rw [List.getElem?_map, List.getElem?_eq_getElem hd]; rfl
      refine ⟨q, txs fs, _, rfl, rfl, by rw [upd_ne hqp]; exact hq2, by rw [txs_len]; exact small1000 (by omega), ?_⟩
      refine ⟨rs.eraseIdx d.toNat, fs ++ [rs[d.toNat]], ?_, rfl, ?_, ?_, ?_, ?_⟩
      · rw [List.length_eraseIdx]; simp [hd]
      · refine List.Perm.trans ?_ hperm
        refine List.Perm.trans ?_ (List.Perm.append_right fs (perm_at hd))
        rw [← List.append_assoc]
        exact List.perm_append_comm
      · rw [upd_ne hqp.symm, upd_same]; unfold txs; rw [eraseIdx_map']
      · rw [upd_same]; unfold txs; rw [List.map_append]; rfl
      · exact Bx.put (Bx.put (hB'.trans hB2) hb hp) hb hq0
theorem s_a : (Str.ofString "a") = S [97] := by decide +kernel
theorem s_b : (Str.ofString "b") = S [98] := by decide +kernel
theorem s_c : (Str.ofString "c") = S [99] := by decide +kernel
theorem s_x : (Str.ofString "x") = S [120] := by decide +kernel
theorem s_z : (Str.ofString "z") = S [122] := by decide +kernel
theorem s_nil : (Str.ofString "") = S [] := by decide +kernel
def Sg (sg : List Nat) : Prop := sg.Pairwise (· < ·) ∧ 1 ≤ sg.length ∧ sg.length ≤ 3 ∧ ∀ c ∈ sg, 97 ≤ c ∧ c ≤ 122
theorem txs_get {ims : List (List Nat)} {i : Nat} {x : V} (h : (txs ims)[i]? = some x) : ∃ l, ims[i]? = some l ∧ x = .str (S l) := by
  unfold txs at h
  rw [List.getElem?_map] at h
  cases q : ims[i]? with
  | none => rw [q] at h; cases h
  | some l => rw [q] at h; exact ⟨l, rfl, (Option.some.inj h).symm⟩
theorem txs_of {ims : List (List Nat)} {f : List Nat → List Nat} {ys : List V} (hl : ys.length = (txs ims).length) (h : ∀ (j : Nat) y, ys[j]? = some y → ∀ l, ims[j]? = some l → y = .str (S (f l))) : ys = txs (ims.map f) := by
  have e : txs (ims.map f) = ims.map fun l => V.str (S (f l)) := by unfold txs; rw [List.map_map]; rfl
  rw [e]
  exact list_map (by rw [hl, txs_len]) fun j y l e1 e2 => h j y e1 l e2
def ab5 : List (List Nat) := [[97], [98], [99], [120], [122]]
abbrev s_signs : Stmt := top 33
abbrev n_signs : List Str := ["box", "many", "sign"]
theorem sc_signs : FnScope n_signs ["box"] (fnScope s_signs) := fnScope_by (by decide +kernel)
def spSigns : Sp := fun vs H Q _ => ∃ (b : Addr), vs = [.ref b] ∧ BoxAt b H ∧ ∀ (sg : List Nat) (H' : Hp), Sg sg → Bx b H H' → Q (.str (S sg)) H'
theorem ok_signs (T : BT mg) (c_pick : Cal P w K mg base 2 "_law_pick" (spPick K) []) (c_mixed : Cal P w K mg base 2 "_law_mixed" (spMixed K) []) {f : Addr} {fd : FuncData} (F : Def K mg "_law_signs" s_signs f fd) (b : Binds K fd ["box"] []) : Cal P w K mg base 3 "_law_signs" spSigns [] := by
  refine cal0 F b .nil sc_signs (fun vs H Q E h => ?_) (fun cdv A outer s H vs Q E hr h => ?_)
  · obtain ⟨b, rfl, _⟩ := h; rfl
  · obtain ⟨b, rfl, hb, k⟩ := h
    refine ⟨_, (pss_cons (ps_set (i := 1) sc_signs.nd rfl (.inl rfl) (pe_c c_pick hr (by first | decide | omega) (by rfl) (pa_cons (pv 0) (pa_cons (pe_lst (pa_cons pe_int (pa_cons pe_int (pa_cons pe_int (pa_cons pe_int (pa_cons pe_int pa_nil)))))) pa_nil))))
      (pss_one (ps_ret (pe_join pe_str (pe_callB cr_sortedS (by rfl) T.m_sorted PyProof.Rows.boot_sorted (pa_cons (pe_lc (own := [("sign", 2)]) rfl sc_signs.nd (pi_list (pe_slice sl_list (pe_c c_mixed hr (by first | decide | omega) (by rfl) (pa_cons (pv 0) (pa_cons (pe_lst (pa_cons pe_str (pa_cons pe_str (pa_cons pe_str (pa_cons pe_str (pa_cons pe_str pa_nil)))))) pa_nil))) po_none (po_some (pv 1)))) (blkOk_by (N := n_signs) (sc := fnScope s_signs) (by decide +kernel)) (fun _ _ _ _ _ => (pg_name (i := 2) sc_signs.nd rfl (.inl rfl))) (fun _ _ _ _ _ => pts_nil) (fun _ _ _ _ _ => (pe_callTy SkE.call_str_str (by rfl) T.m_str PyProof.Rows.boot_str (pa_cons (pv 2) pa_nil)))) pa_nil))))
      )), ?_⟩
    walk_at "s"
    refine ⟨by decide, fun p hp => ?_⟩
    have hpb := box_ne hb hp
    have hB0 : Bx b H (upd H p (.lst [.int 2, .int 2, .int 2, .int 3, .int 1])) := Bx.put (bk_same (Same.refl H) hb) hb hp
    refine ⟨b, p, _, rfl, hB0.2, hpb, SqL.of upd_same, by decide, by decide, fun v H1 hv hB1 => ?_⟩
    obtain ⟨m, rfl, m1, m3⟩ : ∃ m : Nat, v = .int m ∧ 1 ≤ m ∧ m ≤ 3 := by
      have e : v = .int 2 ∨ v = .int 2 ∨ v = .int 2 ∨ v = .int 3 ∨ v = .int 1 := by simpa using hv
      rcases e with rfl | rfl | rfl | rfl | rfl
      · exact ⟨2, rfl, by decide, by decide⟩
      · exact ⟨2, rfl, by decide, by decide⟩
      · exact ⟨2, rfl, by decide, by decide⟩
      · exact ⟨3, rfl, by decide, by decide⟩
      · exact ⟨1, rfl, by decide, by decide⟩
    have hB2 := hB0.trans hB1
    walk_at "s"
    refine ⟨⟨_, rfl⟩, ?_⟩
    walk_at "s"
    refine ⟨by decide, fun q hq => ?_⟩
    have hqb := box_ne hB2.2 hq
    have hB3 : Bx b H (upd H1 q (.lst [.str (Str.ofString "a"), .str (Str.ofString "b"), .str (Str.ofString "c"), .str (Str.ofString "x"), .str (Str.ofString "z")])) := Bx.put hB2 hb (hB2.free hq)
    refine ⟨b, q, ab5, rfl, hB3.2, hqb, SqL.of (by rw [upd_same, s_a, s_b, s_c, s_x, s_z]; rfl), (by intro l hl c hc; simp [ab5] at hl; rcases hl with rfl | rfl | rfl | rfl | rfl <;> simp at hc <;> omega), by decide, fun ys r H2 hys hr hB4 hr2 => ?_⟩
    have hB5 := hB3.trans hB4
    obtain ⟨cs, rfl, hcs⟩ := perm_map_inv (f := fun c => [c]) (g := fun l => l.headD 0) (fun _ => rfl) (show ys.Perm ([97, 98, 99, 120, 122].map fun c => [c]) from hys)
    have hl5 : cs.length = 5 := hcs.length_eq
    have ecut : cutV (txs (cs.map fun c => [c])) none (some (m : Int)) = txs ((cs.take m).map fun c => [c]) := by
      unfold cutV
      rw [HT.sIx_none, HT.sIx_nat, txs_len, List.length_map, hl5, Nat.min_eq_left (by omega)]
      unfold txs
      rw [List.drop_zero, Nat.sub_zero, ← List.map_take, ← List.map_take]
    refine ⟨_, rfl, _, rfl, r, _, rfl, SqL.of hr2, fun q2 hq2 => ?_⟩
    rw [ecut]
    have hB6 : Bx b H (upd H2 q2 (.lst (txs ((cs.take m).map fun c => [c])))) := Bx.put hB5 hb (hB5.free hq2)
    have hlm : (cs.take m).length = m := by rw [List.length_take]; omega
    refine ⟨_, rfl, ⟨_, SqL.of upd_same⟩, fun D hD => lc_keep keep_same (walk_list (K := K) (a := q2) (xs := txs ((cs.take m).map fun c => [c]))) hD (by rw [txs_len, List.length_map, hlm]; exact small1000 (by omega)) (fun j y => ∀ l, ((cs.take m).map fun c => [c])[j]? = some l → y = .str (S l)) (fun H2 r1 => SqL.of (r1 _ _ upd_same)) (fun i x H3 H4 R hii r1 hy hR => ?_) (fun ys H3 hly hg r1 hDs => ?_)⟩
    · obtain ⟨rfl, e⟩ := hy
      obtain ⟨l, el, rfl⟩ := txs_get e
      refine ⟨rfl, ?_⟩
      refine ⟨_, rfl, _, rfl, ?_⟩
      exact hR _ _ (Same.refl _) fun l' h => by rw [el] at h; rw [Option.some.inj h]
    have eys := txs_of (f := id) hly hg
    rw [List.map_id] at eys
    subst eys
    refine ⟨D, (cs.take m).map fun c => S [c], rfl, SqL.of (by rw [hDs]; unfold txs; rw [List.map_map, List.map_map]; rfl), by rw [List.length_map, hlm]; omega, fun ss z hss hsrt hz => ?_⟩
    obtain ⟨ds, rfl, hds⟩ := perm_map_inv (f := fun c => S [c]) (g := fun x => x.cps.toList.headD 0) (fun _ => rfl) hss
    have hnd : ds.Nodup := hds.nodup_iff.mpr ((hcs.nodup_iff.mpr (by decide)).sublist (List.take_sublist _ _))
    have hdl : ds.length = m := by rw [hds.length_eq, hlm]
    refine ⟨_, z, ds.map fun c => S [c], rfl, rfl, .inl (SqL.of upd_same), ?_, ?_⟩
    · rw [sums_singles, s_nil, S_len]; simp only [List.length_nil, Nat.mul_zero, Nat.add_zero]; omega
    · show Q (.str (Txt.join (Str.ofString "") (ds.map fun c => S [c]))) _
      rw [s_nil, join_singles]
      refine k ds _ ⟨strict_of (sorted_singles hsrt) hnd, by omega, by omega, fun c hc => ?_⟩ (Bx.put (hB6.trans (bk_same r1 hB6.2)) hb ?_)
      · have h5 := hcs.subset (List.mem_of_mem_take (hds.subset hc))
        simp at h5; omega
      · exact (hB6.trans (bk_same r1 hB6.2)).free hz
end
end Toy
set_option maxHeartbeats 1000000
namespace Toy
open PySem L2 C8 SX LX
local macro_rules | `(tactic| walk_at "c") => `(tactic| refine And.intro (by first | (show (0 : Int) < _; omega) | exact Or.inr ⟨by decide, by decide⟩ | exact Or.inl ⟨by decide, by decide⟩ | (exact ⟨by omega, by omega⟩)) ?_)
local macro_rules | `(tactic| walk_at "s1") => `(tactic| first | refine ⟨_, rfl, ?_⟩ | refine ⟨_, _, rfl, rfl, ?_⟩ | refine .inl ⟨_, rfl, ?_⟩ | walk_at "c")
local macro_rules | `(tactic| walk_at "s") => `(tactic| repeat (walk_at "s1"))
section
variable {P : Program} {w : World} {K : PySem.W.Frag} {mg : Str → Option Value} {base : Heap}
theorem s_no : (Str.ofString "no") = S [110, 111] := by decide +kernel
theorem s_yes : (Str.ofString "yes") = S [121, 101, 115] := by decide +kernel
theorem s_ma : (Str.ofString "ma") = S [109, 97] := by decide +kernel
theorem s_mb : (Str.ofString "mb") = S [109, 98] := by decide +kernel
theorem s_even : (Str.ofString "even") = S [101, 118, 101, 110] := by decide +kernel
theorem s_seen : (Str.ofString "seen") = S [115, 101, 101, 110] := by decide +kernel
theorem s_zz : (Str.ofString "zz") = S [122, 122] := by decide +kernel
theorem s_ready : (Str.ofString "ready") = S [114, 101, 97, 100, 121] := by decide +kernel
def nm8 : List (List Nat) := [[110, 111], [121, 101, 115], [109, 97], [109, 98], [101, 118, 101, 110], [115, 101, 101, 110], [122, 122], [114, 101, 97, 100, 121]]
theorem nm8_small : Small nm8 := by
  intro l hl c hc
  simp [nm8] at hl
  rcases hl with rfl | rfl | rfl | rfl | rfl | rfl | rfl | rfl <;> simp at hc <;> omega
def Nm (m : List Nat) : Prop := 2 ≤ m.length ∧ m.length ≤ 6 ∧ (∀ c ∈ m, 97 ≤ c ∧ c ≤ 122)
def Mks (ms : List (List Nat)) (most : Nat) : Prop := ms.Nodup ∧ 1 ≤ ms.length ∧ ms.length ≤ most ∧ ∀ m ∈ ms, m ∈ nm8
structure Mch (sg : List Nat) (ms : List (List Nat)) (f : List Nat) (tg : List Nat → Nat → List Nat) (most : Nat) : Prop where
  hsg : Sg sg
  hms : Mks ms most
  hf : f ∈ ms
  htg : ∀ m ∈ ms, ∀ c ∈ sg, tg m c ∈ ms
theorem k_signs : (Sum.inr (Str.ofString "signs") : Key) = tk [115, 105, 103, 110, 115] := by rw [show (Str.ofString "signs") = S [115, 105, 103, 110, 115] from by decide +kernel]
theorem k_marks : (Sum.inr (Str.ofString "marks") : Key) = tk [109, 97, 114, 107, 115] := by rw [show (Str.ofString "marks") = S [109, 97, 114, 107, 115] from by decide +kernel]
theorem k_first : (Sum.inr (Str.ofString "first") : Key) = tk [102, 105, 114, 115, 116] := by rw [show (Str.ofString "first") = S [102, 105, 114, 115, 116] from by decide +kernel]
theorem k_leads : (Sum.inr (Str.ofString "leads") : Key) = tk [108, 101, 97, 100, 115] := by rw [show (Str.ofString "leads") = S [108, 101, 97, 100, 115] from by decide +kernel]
def tdK (sg : List Nat) (pm : Addr) (f : List Nat) (pl : Addr) : List (Key × V) := [(.inr "signs", .str (S sg)), (.inr "marks", .ref pm), (.inr "first", .str (S f)), (.inr "leads", .ref pl)]
def leK (ms : List (List Nat)) (ad : List Nat → Addr) : List (Key × V) := ms.map fun m => (tk m, .ref (ad m))
def laK (sg : List Nat) (t : Nat → List Nat) : List (Key × V) := sg.map fun c => (tk [c], .str (S (t c)))
structure Told (H : Hp) (a : Addr) (sg : List Nat) (ms : List (List Nat)) (f : List Nat) (tg : List Nat → Nat → List Nat) (pm pl : Addr) (ad : List Nat → Addr) : Prop where
  ha : H a = some (.dK (tdK sg pm f pl))
  hpm : H pm = some (.lst (txs ms))
  hpl : H pl = some (.dK (leK ms ad))
  had : ∀ m ∈ ms, H (ad m) = some (.dK (laK sg (tg m)))
abbrev s_drawn : Stmt := top 34
abbrev n_drawn : List Str := ["box", "signs", "most", "marks", "leads", "mark", "sign"]
theorem sc_drawn : FnScope n_drawn ["box", "signs", "most"] (fnScope s_drawn) := fnScope_by (by decide +kernel)
def spDrawn : Sp := fun vs H Q _ => ∃ (b : Addr) (sg : List Nat) (most : Nat), vs = [.ref b, .str (S sg), .int most] ∧ Sg sg ∧ 1 ≤ most ∧ most ≤ 7 ∧ BoxAt b H ∧
  ∀ (a : Addr) (ms : List (List Nat)) (f : List Nat) (tg : List Nat → Nat → List Nat) (pm pl : Addr) (ad : List Nat → Addr) (H' : Hp), Mch sg ms f tg most → Bx b H H' → H a = none → H pm = none → H pl = none → (∀ m ∈ ms, H (ad m) = none) → Told H' a sg ms f tg pm pl ad → Q (.ref a) H'
theorem ok_drawn (T : BT mg) (c_take : Cal P w K mg base 1 "_law_take" spTake []) (c_pick : Cal P w K mg base 2 "_law_pick" (spPick K) []) (c_mixed : Cal P w K mg base 2 "_law_mixed" (spMixed K) []) {f : Addr} {fd : FuncData} (F : Def K mg "_law_drawn" s_drawn f fd) (b : Binds K fd ["box", "signs", "most"] []) : Cal P w K mg base 3 "_law_drawn" spDrawn [] := by
  refine cal0 F b .nil sc_drawn (fun vs H Q E h => ?_) (fun cdv A outer s H vs Q E hr h => ?_)
  · obtain ⟨b, sg, most, rfl, _⟩ := h; rfl
  · obtain ⟨b, sg, most, rfl, hsg, hm1, hm7, hb, k⟩ := h
    refine ⟨_, (pss_cons (ps_set (i := 3) sc_drawn.nd rfl (.inr rfl) (pe_slice sl_list (pe_c c_mixed hr (by first | decide | omega) (by rfl) (pa_cons (pv 0) (pa_cons (pe_lst (pa_cons pe_str (pa_cons pe_str (pa_cons pe_str (pa_cons pe_str (pa_cons pe_str (pa_cons pe_str (pa_cons pe_str (pa_cons pe_str pa_nil))))))))) pa_nil))) po_none (po_some (pe_op op_add pe_int (pe_c c_take hr (by first | decide | omega) (by rfl) (pa_cons (pv 0) (pa_cons (pv 2) pa_nil)))))))
      (pss_cons (ps_set (i := 4) sc_drawn.nd rfl (.inl rfl) pe_dnewK)
      (pss_cons (ps_for PassesOwn.never rfl (pi_list (pv 3)) (pg_name (i := 5) sc_drawn.nd rfl (.inl rfl)) 
        (pss_one (ps_dput (hu_of hr) (pv 4) (pv 5) (pe_callTy (call_dictP rfl) (by rfl) T.m_dict PyProof.Rows.boot_dict (pa_cons (pe_lc (own := [("sign", 6)]) rfl sc_drawn.nd (pi_str (pv 1)) (blkOk_by (N := n_drawn) (sc := fnScope s_drawn) (by decide +kernel)) (fun _ _ _ _ _ => (pg_name (i := 6) sc_drawn.nd rfl (.inl rfl))) (fun _ _ _ _ _ => pts_nil) (fun _ _ _ _ _ => (pe_tup (pa_cons (pv 6) (pa_cons (pe_c c_pick hr (by first | decide | omega) (by rfl) (pa_cons (pv 0) (pa_cons (pv 3) pa_nil))) pa_nil))))) pa_nil)) rfl)
        ))
      (pss_one (ps_ret (pe_disp (pps_cons pe_str (pv 1) (pps_cons pe_str (pv 3) (pps_cons pe_str (pe_c c_pick hr (by first | decide | omega) (by rfl) (pa_cons (pv 0) (pa_cons (pv 3) pa_nil))) (pps_cons pe_str (pv 4) pps_nil)))) rfl rfl (by decide) (by decide)))
      )))), ?_⟩
    walk_at "s"
    refine ⟨by decide, fun q hq => ?_⟩
    have hqb := box_ne hb hq
    have hB0 : Bx b H (upd H q (.lst [.str "no", .str "yes", .str "ma", .str "mb", .str "even", .str "seen", .str "zz", .str "ready"])) := Bx.put (bk_same (Same.refl H) hb) hb hq
    refine ⟨b, q, nm8, rfl, hB0.2, hqb, SqL.of (by rw [upd_same, s_no, s_yes, s_ma, s_mb, s_even, s_seen, s_zz, s_ready]; rfl), nm8_small, by decide, fun ys r H2 hys hr hB1 hr2 => ?_⟩
    have hB2 := hB0.trans hB1
    have hrb : r ≠ b := box_ne hB0.2 hr
    refine ⟨_, rfl, _, rfl, b, (most : Int), rfl, hB2.2, by omega, by omega, fun d H3 d0 d1 hB3 => ?_⟩
    obtain ⟨n, rfl⟩ := Int.eq_ofNat_of_zero_le d0
    have hr3 := hB3.1 _ _ hrb hr2
    refine ⟨_, _, rfl, rfl, _, rfl, r, _, rfl, SqL.of hr3, fun pm hpm => ?_⟩
    rw [show (1 : Int) + (n : Int) = ((1 + n : Nat) : Int) by omega, cut_to]
    have hB4 := hB2.trans hB3
    have hB5 : Bx b H (upd H3 pm (.lst (txs (ys.take (1 + n))))) := Bx.put hB4 hb (hB4.free hpm)
    have hpmb : pm ≠ b := box_ne hB4.2 hpm
    have hpm0 : H pm = none := hB4.free hpm
    have hms : Mks (ys.take (1 + n)) most := by
      have hl8 : ys.length = 8 := hys.length_eq
      refine ⟨(hys.nodup_iff.mpr (by decide)).sublist (List.take_sublist _ _), ?_, ?_, fun m hm => hys.subset (List.mem_of_mem_take hm)⟩
      · rw [List.length_take]; omega
      · rw [List.length_take]; omega
    generalize ys.take (1 + n) = ms at hms hB5 ⊢
    refine fun pl hpl => ?_
    have hB6 : Bx b H (upd (upd H3 pm (.lst (txs ms))) pl (.dK [])) := Bx.put hB5 hb (hB5.free hpl)
    have hplb : pl ≠ b := box_ne hB5.2 hpl
    have hpl0 : H pl = none := hB5.free hpl
    have hpmpl : pm ≠ pl := fun e => by rw [← e, upd_same] at hpl; cases hpl
    refine ⟨_, rfl, _, rfl, ⟨_, SqL.of (by rw [upd_ne hpmpl, upd_same])⟩, for_it (walk_list (K := K) (a := pm) (xs := txs ms)) (fun i σ H' => ∃ (ad : List Nat → Addr) (tg : List Nat → Nat → List Nat) (s5 s6 : Option V), σ = [some (.ref b), some (.str (S sg)), some (.int most), some (.ref pm), some (.ref pl), s5, s6] ∧ Bx b H H' ∧ H' pm = some (.lst (txs ms)) ∧
        H' pl = some (.dK (leK (ms.take i) ad)) ∧ (∀ m ∈ ms.take i, H (ad m) = none ∧ ad m ≠ pl ∧ H' (ad m) = some (.dK (laK sg (tg m)))) ∧ ∀ m ∈ ms.take i, ∀ c ∈ sg, tg m c ∈ ms)
      ⟨fun _ => 0, fun _ _ => [], _, _, rfl, hB6, by rw [upd_ne hpmpl, upd_same], upd_same, (fun _ h => nomatch h), (fun _ h => nomatch h)⟩ (fun i σ H' _ ⟨_, _, _, _, _, _, h, _⟩ => SqL.of h) ?_ ?_⟩
    · rintro i x σ H4 H4' hi ⟨ad, tg, s5, s6, rfl, hB7, hpm7, hpl7, had, htg⟩ ⟨rfl, hx⟩
      obtain ⟨m, hm, rfl⟩ := txs_get hx
      have hmm : m ∈ ms := List.mem_of_getElem? hm
      refine ⟨_, rfl, _, rfl, fun D hD => ?_⟩
      refine lc_keepH (keep_bk hB7.2) walk_str hD (by show sg.length < sizeLine; exact small1000 (by have := hsg.2.2.1; omega)) (fun j y H => ∃ (t : Addr) (c : Nat) (v : List Nat), y = .ref t ∧ sg[j]? = some c ∧ v ∈ ms ∧ H t = some (.tup [.str (S [c]), .str (S v)])) (fun _ _ => trivial)
        (fun _ _ H5 H6 r r2 ⟨t, c, v, e, hc, hv, ht⟩ => ⟨t, c, v, e, hc, hv, r2.1 _ _ (tup_ne_box r.2 ht) ht⟩) (fun _ _ H5 acc o _ hDa ⟨t, c, v, e, hc, hv, ht⟩ => ⟨t, c, v, e, hc, hv, by rw [upd_ne (ne_of ht hDa (by intro h; cases h))]; exact ht⟩) (fun j x H5 H6 acc R hj r hDa hy hR => ?_) (fun ys H5 hly hg r hDs => ?_)
      · obtain ⟨rfl, c, hc, rfl⟩ := hy
        have hc' : sg[j]? = some c := by simpa [S] using hc
        refine ⟨rfl, ?_⟩
        have hpm6 := r.1 _ _ hpmb hpm7
        refine ⟨_, rfl, _, rfl, _, rfl, b, pm, txs ms, rfl, r.2, hpmb, SqL.of hpm6, by rw [txs_len]; exact hms.2.1, by rw [txs_len]; have := hms.2.2.1; omega, fun v H7 hv hB8 => ?_⟩
        unfold txs at hv
        obtain ⟨l, hl, rfl⟩ := List.mem_map.mp hv
        refine ⟨(by show 2 ≤ sizeLine; decide), fun t ht => ?_⟩
        exact hR _ _ (Bx.put hB8 r.2 (hB8.free ht)) ⟨t, c, l, rfl, hc', hl, upd_same⟩
      have hly2 : ys.length = sg.length := hly.trans (by simp [S])
      have h2 : ∀ (j : Nat) (c : Nat), sg[j]? = some c → ∃ v : Addr × List Nat, ys[j]? = some (.ref v.1) ∧ v.2 ∈ ms ∧ H5 v.1 = some (.tup [.str (S [c]), .str (S v.2)]) := fun j c hc => by
        have hj : j < ys.length := by rw [hly2]; exact (List.getElem?_eq_some_iff.mp hc).1
        obtain ⟨t, c', v, e, hc', hv, ht⟩ := hg j _ (List.getElem?_eq_getElem hj)
        rw [hc] at hc'
        cases hc'
        exact ⟨(t, v), by rw [List.getElem?_eq_getElem hj, e], hv, ht⟩
      have hsn : sg.Nodup := hsg.1.imp fun h => by omega
      obtain ⟨g, hg2⟩ := fun_of hsn h2
      have eys : ys = (sg.map fun c => (g c).1).map V.ref := by
        rw [List.map_map]
        exact list_map hly2 fun j y c e1 e2 => by have := (hg2 j c e2).1; rw [e1] at this; exact Option.some.inj this
      refine ⟨D, sg.map fun c => (g c).1, laK sg fun c => (g c).2, rfl, SqL.of (by rw [← eys]; exact hDs), paired_map fun c hc => ?_, fun dd hdd => ?_⟩
      · obtain ⟨j, hj⟩ := List.getElem?_of_mem hc
        exact .inl (.inl (hg2 j c hj).2.2)
      have emg : mergeK [] (laK sg fun c => (g c).2) = laK sg fun c => (g c).2 := merge_nil (nodup_keys (key := fun c => tk [c]) (fun a b h => (List.cons.inj (tk_inj h)).1) hsn)
      rw [emg]
      have hpl8 : upd H5 dd (.dK (laK sg fun c => (g c).2)) pl = some (.dK (leK (ms.take i) ad)) := by
        have := r.1 _ _ hplb hpl7
        rw [upd_ne (ne_of_none this hdd)]; exact this
      have hB8 : Bx b H H5 := hB7.trans r
      have hB9 : Bx b H (upd H5 dd (.dK (laK sg fun c => (g c).2))) := Bx.put hB8 hb (hB8.free hdd)
      refine ⟨_, rfl, _, rfl, pl, _, rfl, DPut.k (k := tk m) hpl8 ?_, ?_⟩
      · unfold leK; rw [List.length_map, List.length_take]; exact small1000 (by have := hms.2.2.1; omega)
      have hnew : putK (leK (ms.take i) ad) (tk m) (.ref dd) = leK (ms.take i) ad ++ [(tk m, .ref dd)] := putK_new _ (valV_none fun p hp => by
        unfold leK at hp
        obtain ⟨m', hm', rfl⟩ := List.mem_map.mp hp
        exact fun e => not_in_take hms.1 hm (tk_inj e ▸ hm'))
      rw [hnew]
      have hddpl : dd ≠ pl := fun e => by rw [e] at hdd; have := r.1 _ _ hplb hpl7; rw [hdd] at this; cases this
      have hne : ∀ m' ∈ ms.take i, m' ≠ m := fun m' h e => not_in_take hms.1 hm (e ▸ h)
      refine ⟨fun x => if x = m then dd else ad x, fun x => if x = m then (fun c => (g c).2) else tg x, _, _, rfl, ?_, ?_, ?_, ?_, ?_⟩
      · exact Bx.put hB9 hb hpl0
      · have := r.1 _ _ hpmb hpm7
        rw [upd_ne hpmpl, upd_ne (ne_of_none this hdd)]; exact this
      · rw [upd_same, take_more hm]
        have : leK (ms.take i ++ [m]) (fun x => if x = m then dd else ad x) = leK (ms.take i) ad ++ [(tk m, .ref dd)] := by
          unfold leK
          rw [List.map_append]
          congr 1
          · exact List.map_congr_left fun m' h => by dsimp only; rw [if_neg (hne m' h)]
          · show [(tk m, V.ref (if m = m then dd else ad m))] = _
            rw [if_pos rfl]
        rw [this]
      · intro m' hm'
        rw [take_more hm] at hm'
        rcases List.mem_append.mp hm' with h | h
        · obtain ⟨a1, a2, a3⟩ := had m' h
          have a4 := r.1 _ _ (dict_ne_box hB7.2 a3) a3
          dsimp only
          rw [if_neg (hne m' h), if_neg (hne m' h)]
          exact ⟨a1, a2, by rw [upd_ne a2, upd_ne (ne_of_none a4 hdd)]; exact a4⟩
        · rw [List.mem_singleton] at h
          subst h
          dsimp only
          rw [if_pos rfl, if_pos rfl]
          exact ⟨hB8.free hdd, hddpl, by rw [upd_ne hddpl, upd_same]⟩
      · intro m' hm' c hc
        rw [take_more hm] at hm'
        rcases List.mem_append.mp hm' with h | h
        · dsimp only
          rw [if_neg (hne m' h)]
          exact htg m' h c hc
        · rw [List.mem_singleton] at h
          subst h
          dsimp only
          rw [if_pos rfl]
          obtain ⟨j, hj⟩ := List.getElem?_of_mem hc
          exact (hg2 j c hj).2.1
    · rintro σ H4 ⟨ad, tg, s5, s6, rfl, hB7, hpm7, hpl7, had, htg⟩
      rw [txs_len, List.take_length] at hpl7 had htg
      refine fun a ha => ?_
      have hB8 : Bx b H (upd H4 a (.dK [])) := Bx.put hB7 hb (hB7.free ha)
      have hapm : pm ≠ a := ne_of_none hpm7 ha
      have hapl : pl ≠ a := ne_of_none hpl7 ha
      have hab : a ≠ b := box_ne hB7.2 ha
      refine ⟨_, rfl, _, rfl, _, rfl, _, rfl, b, pm, txs ms, rfl, hB8.2, hpmb, SqL.of (by rw [upd_ne hapm]; exact hpm7), by rw [txs_len]; exact hms.2.1, by rw [txs_len]; have := hms.2.2.1; omega, fun v H5 hv hB9 => ?_⟩
      unfold txs at hv
      obtain ⟨l, hl, rfl⟩ := List.mem_map.mp hv
      refine ⟨_, rfl, hB9.1 _ _ hab upd_same, tdK sg pm l pl, rfl, (by show 4 ≤ 15; decide), ?_⟩
      rw [merge_nil (by show ([.inr "signs", .inr "marks", .inr "first", .inr "leads"] : List Key).Nodup; decide +kernel)]
      refine k a ms l tg pm pl ad _ ⟨hsg, hms, hl, htg⟩ (Bx.put (hB8.trans hB9) hb (hB7.free ha)) (hB7.free ha) hpm0 hpl0 (fun m hm => (had m hm).1) ⟨upd_same, ?_, ?_, fun m hm => ?_⟩
      · rw [upd_ne hapm]; exact hB9.1 _ _ hpmb (by rw [upd_ne hapm]; exact hpm7)
      · rw [upd_ne hapl]; exact hB9.1 _ _ hplb (by rw [upd_ne hapl]; exact hpl7)
      · obtain ⟨a1, a2, a3⟩ := had m hm
        have hn : ad m ≠ a := ne_of_none a3 ha
        rw [upd_ne hn]
        exact hB9.1 _ _ (dict_ne_box hB7.2 a3) (by rw [upd_ne hn]; exact a3)
end
end Toy
set_option maxHeartbeats 1000000
namespace Toy
open PySem L2 C8 SX LX
local macro_rules | `(tactic| walk_at "c") => `(tactic| refine And.intro (by first | (show (0 : Int) < _; omega) | exact Or.inr ⟨by decide, by decide⟩ | exact Or.inl ⟨by decide, by decide⟩ | (exact ⟨by omega, by omega⟩)) ?_)
local macro_rules | `(tactic| walk_at "s1") => `(tactic| first | refine ⟨_, rfl, ?_⟩ | refine ⟨_, _, rfl, rfl, ?_⟩ | refine .inl ⟨_, rfl, ?_⟩ | walk_at "c")
local macro_rules | `(tactic| walk_at "s") => `(tactic| repeat (walk_at "s1"))
section
variable {P : Program} {w : World} {K : PySem.W.Frag} {mg : Str → Option Value} {base : Heap}
section
variable {H : Hp} {a : Addr} {sg : List Nat} {ms : List (List Nat)} {f : List Nat} {tg : List Nat → Nat → List Nat} {pm pl : Addr} {ad : List Nat → Addr}
theorem Told.signs (t : Told H a sg ms f tg pm pl ad) : DGet H a (.str (Str.ofString "signs")) (some (.str (S sg))) := .inl ⟨_, .inr "signs", .inl t.ha, rfl, by unfold tdK; rw [valV_pos rfl]⟩
theorem ne_keys {x y : Str} (h : ¬ x = y) : ¬ (Sum.inr x : Key) = Sum.inr y := fun e => h (Sum.inr.inj e)
theorem Told.marks (t : Told H a sg ms f tg pm pl ad) : DGet H a (.str (Str.ofString "marks")) (some (.ref pm)) := .inl ⟨_, .inr "marks", .inl t.ha, rfl, by
  unfold tdK; rw [valV_neg (ne_keys (by decide +kernel)), valV_pos rfl]⟩
theorem Told.first (t : Told H a sg ms f tg pm pl ad) : DGet H a (.str (Str.ofString "first")) (some (.str (S f))) := .inl ⟨_, .inr "first", .inl t.ha, rfl, by
  unfold tdK; rw [valV_neg (ne_keys (by decide +kernel)), valV_neg (ne_keys (by decide +kernel)), valV_pos rfl]⟩
theorem Told.leads (t : Told H a sg ms f tg pm pl ad) : DGet H a (.str (Str.ofString "leads")) (some (.ref pl)) := .inl ⟨_, .inr "leads", .inl t.ha, rfl, by
  unfold tdK; rw [valV_neg (ne_keys (by decide +kernel)), valV_neg (ne_keys (by decide +kernel)), valV_neg (ne_keys (by decide +kernel)), valV_pos rfl]⟩
theorem Told.mark (t : Told H a sg ms f tg pm pl ad) {m : List Nat} (h : m ∈ ms) : DGet H pl (.str (S m)) (some (.ref (ad m))) := .inl ⟨_, tk m, .inl t.hpl, rfl, (valV_map' (key := tk) (f := fun m => V.ref (ad m)) (fun _ _ => tk_inj) h).symm⟩
theorem Told.at_ (t : Told H a sg ms f tg pm pl ad) {m : List Nat} (h : m ∈ ms) {c : Nat} (hc : c ∈ sg) : DGet H (ad m) (.str (S [c])) (some (.str (S (tg m c)))) :=
  .inl ⟨_, tk [c], .inl (t.had m h), rfl, (valV_map' (key := fun c => tk [c]) (f := fun c => V.str (S (tg m c))) (fun _ _ e => (List.cons.inj (tk_inj e)).1) hc).symm⟩
theorem Told.same {H' : Hp} (t : Told H a sg ms f tg pm pl ad) (s : Same H H') : Told H' a sg ms f tg pm pl ad := ⟨s _ _ t.ha, s _ _ t.hpm, s _ _ t.hpl, fun m h => s _ _ (t.had m h)⟩
theorem Told.bx {H' : Hp} {b : Addr} (t : Told H a sg ms f tg pm pl ad) (s : Bx b H H') (hb : BoxAt b H) (n : pm ≠ b) : Told H' a sg ms f tg pm pl ad :=
  ⟨s.1 _ _ (dict_ne_box hb t.ha) t.ha, s.1 _ _ n t.hpm, s.1 _ _ (dict_ne_box hb t.hpl) t.hpl, fun m h => s.1 _ _ (dict_ne_box hb (t.had m h)) (t.had m h)⟩
end
def Ov (sg l : List Nat) : Prop := ∀ c ∈ l, c ∈ sg
def ledTo (tg : List Nat → Nat → List Nat) (m : List Nat) (row : List Nat) : List Nat := row.foldl tg m
theorem led_in {sg : List Nat} {ms : List (List Nat)} {tg : List Nat → Nat → List Nat} (htg : ∀ m ∈ ms, ∀ c ∈ sg, tg m c ∈ ms) : ∀ {row : List Nat} {m : List Nat}, Ov sg row → m ∈ ms → ledTo tg m row ∈ ms
  | [], _, _, h => h
  | c :: row, m, ho, h => led_in htg (row := row) (fun d hd => ho d (List.mem_cons_of_mem _ hd)) (htg m h c (ho c List.mem_cons_self))
abbrev s_led : Stmt := top 36
abbrev n_led : List Str := ["told", "mark", "row", "sign"]
theorem sc_led : FnScope n_led ["told", "mark", "row"] (fnScope s_led) := fnScope_by (by decide +kernel)
def spLed : Sp := fun vs H Q _ => ∃ (a : Addr) (sg : List Nat) (ms : List (List Nat)) (f : List Nat) (tg : List Nat → Nat → List Nat) (pm pl : Addr) (ad : List Nat → Addr) (m row : List Nat), vs = [.ref a, .str (S m), .str (S row)] ∧
  Told H a sg ms f tg pm pl ad ∧ (∀ m ∈ ms, ∀ c ∈ sg, tg m c ∈ ms) ∧ m ∈ ms ∧ Ov sg row ∧ Q (.str (S (ledTo tg m row))) H
theorem ok_led (T : BT mg) {f : Addr} {fd : FuncData} (F : Def K mg "_law_led" s_led f fd) (b : Binds K fd ["told", "mark", "row"] []) : Cal P w K mg base 1 "_law_led" spLed [] := by
  refine cal0 F b .nil sc_led (fun vs H Q E h => ?_) (fun cdv A outer s H vs Q E hr h => ?_)
  · obtain ⟨a, sg, ms, f, tg, pm, pl, ad, m, row, rfl, _⟩ := h; rfl
  · obtain ⟨a, sg, ms, f, tg, pm, pl, ad, m, row, rfl, t, htg, hm, ho, k⟩ := h
    refine ⟨_, (pss_cons (ps_for PassesOwn.never rfl (pi_str (pv 2)) (pg_name (i := 3) sc_led.nd rfl (.inl rfl)) 
        (pss_one (ps_set (i := 1) sc_led.nd rfl (.inl rfl) (pe_dget (hu_of hr) (pe_dget (hu_of hr) (pe_dget (hu_of hr) (pv 0) pe_str (fun _ _ => rfl)) (pv 1) (fun _ _ => rfl)) (pv 3) (fun _ _ => rfl)))
        ))
      (pss_one (ps_ret (pv 1))
      )), ?_⟩
    refine ⟨_, rfl, _, rfl, for_it walk_str (fun i σ H' => ∃ s3 : Option V, σ = [some (.ref a), some (.str (S (ledTo tg m (row.take i)))), some (.str (S row)), s3] ∧ H' = H) ⟨none, rfl, rfl⟩ (fun _ _ _ _ _ => trivial) ?_ ?_⟩
    · rintro i x σ H1 H1' hi ⟨s3, rfl, rfl⟩ ⟨rfl, c, hc, rfl⟩
      have hc' : row[i]? = some c := by simpa [S] using hc
      have hmi : ledTo tg m (row.take i) ∈ ms := led_in htg (fun d hd => ho d (List.mem_of_mem_take hd)) hm
      refine ⟨_, rfl, _, _, rfl, t.leads, ?_⟩
      refine ⟨_, rfl, _, _, rfl, t.mark hmi, ?_⟩
      refine ⟨_, rfl, _, _, rfl, t.at_ hmi (ho c (List.mem_of_getElem? hc')), ?_⟩
      have e1 : ledTo tg m (row.take (i + 1)) = tg (ledTo tg m (row.take i)) c := by
        rw [take_more hc']
        unfold ledTo
        rw [List.foldl_append]
        rfl
      exact ⟨_, by rw [e1]; rfl, rfl⟩
    · rintro σ H1 ⟨s3, rfl, rfl⟩
      refine ⟨_, rfl, ?_⟩
      have e : row.take (S row).cps.size = row := by rw [show (S row).cps.size = row.length by simp [S], List.take_length]
      show Q (V.str (S (ledTo tg m (List.take (S row).cps.size row)))) H1
      rw [e]
      exact k
def level (sg : List Nat) : Nat → List (List Nat)
  | 0 => [[]]
  | n + 1 => (level sg n).flatMap fun r => sg.map fun c => r ++ [c]
def upto (sg : List Nat) : Nat → List (List Nat)
  | 0 => [[]]
  | n + 1 => upto sg n ++ level sg (n + 1)
theorem level_len {sg : List Nat} (h : sg.length ≤ 3) : ∀ n, (level sg n).length ≤ 3 ^ n
  | 0 => Nat.le_refl _
  | n + 1 => by
    have ih := level_len h n
    have e : ∀ l : List (List Nat), (l.flatMap fun r => sg.map fun c => r ++ [c]).length = l.length * sg.length := by
      intro l
      induction l with
      | nil => simp
      | cons r l ih => rw [List.flatMap_cons, List.length_append, ih, List.length_map, List.length_cons, Nat.add_mul]; omega
    show ((level sg n).flatMap fun r => sg.map fun c => r ++ [c]).length ≤ _
    rw [e, Nat.pow_succ]
    exact Nat.mul_le_mul ih h
theorem upto_len {sg : List Nat} (h : sg.length ≤ 3) : ∀ n, (upto sg n).length ≤ 2 * 3 ^ n
  | 0 => by show 1 ≤ 2; decide
  | n + 1 => by
    have ih := upto_len h n
    have := level_len h (n + 1)
    show (upto sg n ++ level sg (n + 1)).length ≤ _
    rw [List.length_append]
    rw [Nat.pow_succ] at this ⊢
    omega
theorem level_row {sg : List Nat} : ∀ {n : Nat} {r : List Nat}, r ∈ level sg n → r.length = n ∧ Ov sg r
  | 0, r, h => by
    rw [List.mem_singleton.mp h]
    exact ⟨rfl, fun _ h => nomatch h⟩
  | n + 1, r, h => by
    obtain ⟨q, hq, hr⟩ := List.mem_flatMap.mp h
    obtain ⟨c, hc, rfl⟩ := List.mem_map.mp hr
    obtain ⟨i1, i2⟩ := level_row hq
    refine ⟨by rw [List.length_append, i1]; rfl, fun d hd => ?_⟩
    rcases List.mem_append.mp hd with h | h
    · exact i2 d h
    · rw [List.mem_singleton.mp h]; exact hc
theorem upto_row {sg : List Nat} : ∀ {n : Nat} {r : List Nat}, r ∈ upto sg n → r.length ≤ n ∧ Ov sg r
  | 0, r, h => by
    rw [List.mem_singleton.mp h]
    exact ⟨Nat.le_refl _, fun _ h => nomatch h⟩
  | n + 1, r, h => by
    rcases List.mem_append.mp h with h | h
    · obtain ⟨a, b⟩ := upto_row h
      exact ⟨Nat.le_succ_of_le a, b⟩
    · obtain ⟨a, b⟩ := level_row h
      exact ⟨Nat.le_of_eq a, b⟩
abbrev s_rows : Stmt := top 37
abbrev n_rows : List Str := ["signs", "most", "found", "last", "turn", "longer", "row", "sign"]
theorem sc_rows : FnScope n_rows ["signs", "most"] (fnScope s_rows) := fnScope_by (by decide +kernel)
def spRows : Sp := fun vs H Q _ => ∃ (sg : List Nat) (n : Nat), vs = [.str (S sg), .int n] ∧ sg.length ≤ 3 ∧ n ≤ 5 ∧ ∀ (p : Addr) (H' : Hp), Same H H' → H p = none → H' p = some (.lst (txs (upto sg n))) → Q (.ref p) H'
theorem ok_rows (T : BT mg) {f : Addr} {fd : FuncData} (F : Def K mg "_law_rows" s_rows f fd) (b : Binds K fd ["signs", "most"] []) : Cal P w K mg base 1 "_law_rows" spRows [] := by
  refine cal0 F b .nil sc_rows (fun vs H Q E h => ?_) (fun cdv A outer s H vs Q E hr h => ?_)
  · obtain ⟨sg, n, rfl, _⟩ := h; rfl
  · obtain ⟨sg, n, rfl, hl3, hn5, k⟩ := h
    refine ⟨_, (pss_cons (ps_par (i := 2) (j := 3) rfl sc_rows.nd rfl rfl (by decide) rfl rfl (pa_cons (pe_lst (pa_cons pe_str pa_nil)) (pa_cons (pe_lst (pa_cons pe_str pa_nil)) pa_nil)) rfl)
      (pss_cons (ps_for PassesOwn.never rfl (pi_range1 (by rfl) T.m_range (pa_cons (pv 1) pa_nil)) (pg_name (i := 4) sc_rows.nd rfl (.inl rfl)) 
        (pss_cons (ps_set (i := 5) sc_rows.nd rfl (.inl rfl) (pe_lst pa_nil))
        (pss_cons (ps_for PassesOwn.never rfl (pi_list (pv 3)) (pg_name (i := 6) sc_rows.nd rfl (.inr rfl)) 
          (pss_one (ps_expr (pe_bm PySem.F.plainAttrs_list PySem.F.slot_list_extend PySem.F.type_list_extend mt_extend (pv 5) (pa_cons (pe_lc (own := [("sign", 7)]) rfl sc_rows.nd (pi_str (pv 0)) (blkOk_by (N := n_rows) (sc := fnScope s_rows) (by decide +kernel)) (fun _ _ _ _ _ => (pg_name (i := 7) sc_rows.nd rfl (.inl rfl))) (fun _ _ _ _ _ => pts_nil) (fun _ _ _ _ _ => (pe_op op_add_str (pv 6) (pv 7)))) pa_nil)))
          ))
        (pss_one (ps_par (i := 2) (j := 3) rfl sc_rows.nd rfl rfl (by decide) rfl rfl (pa_cons (pe_op op_cat (pv 2) (pv 5)) (pa_cons (pv 5) pa_nil)) rfl)
        ))))
      (pss_one (ps_ret (pv 2))
      ))), ?_⟩
    refine ⟨by decide, fun p0 hp0 => ?_⟩
    refine ⟨by decide, fun q0 hq0 => ?_⟩
    have hpq : p0 ≠ q0 := fun e => by rw [← e, upd_same] at hq0; cases hq0
    have s0 : Same H (upd (upd H p0 (.lst [.str ""])) q0 (.lst [.str ""])) := sm_put' (sm_new hp0) hq0
    refine ⟨_, _, rfl, ?_⟩
    refine ⟨_, rfl, (n : Int), rfl, by omega, by omega, ?_⟩
    refine for_it (walk_range (lo := 0)) (fun i σ H' => ∃ (p q : Addr) (s4 s5 s6 s7 : Option V), σ = [some (.str (S sg)), some (.int n), some (.ref p), some (.ref q), s4, s5, s6, s7] ∧ Same H H' ∧ H p = none ∧ H' p = some (.lst (txs (upto sg i))) ∧ H' q = some (.lst (txs (level sg i))))
      ⟨p0, q0, _, _, _, _, rfl, s0, hp0, by rw [upd_ne hpq, upd_same, s_nil]; rfl, by rw [upd_same, s_nil]; rfl⟩ (fun _ _ _ _ _ => trivial) ?_ ?_
    · rintro i x σ H1 H1' hi ⟨p, q, s4, s5, s6, s7, rfl, s1, hp, hp1, hq1⟩ ⟨rfl, rfl⟩
      have hi5 : i < 5 := by have : (n : Int).toNat = n := Int.toNat_natCast n; omega
      have p3 : 3 ^ i ≤ 81 := Nat.le_trans (Nat.pow_le_pow_right (by decide) (show i ≤ 4 by omega)) (by decide)
      have hll := level_len hl3 i
      have hul := upto_len hl3 i
      refine ⟨Nat.zero_le _, fun g hg => ?_⟩
      have s2 : Same H1' (upd H1' g (.lst [])) := sm_new hg
      refine ⟨_, rfl, _, rfl, ⟨_, SqL.of (s2 _ _ hq1)⟩, for_it (walk_list (K := K) (a := q) (xs := txs (level sg i))) (fun j σ H' => ∃ (s6 s7 : Option V), σ = [some (.str (S sg)), some (.int n), some (.ref p), some (.ref q), some (.int (0 + (i : Int))), some (.ref g), s6, s7] ∧ Same H1' H' ∧
          H' g = some (.lst (txs (((level sg i).take j).flatMap fun r => sg.map fun c => r ++ [c]))))
        ⟨_, _, rfl, s2, upd_same⟩ (fun j σ H' _ ⟨_, _, _, s, _⟩ => SqL.of (s _ _ hq1)) ?_ ?_⟩
      · rintro j x σ H2 H2' hj ⟨s6, s7, rfl, s3, hg3⟩ ⟨rfl, hx⟩
        obtain ⟨r, hr, rfl⟩ := txs_get hx
        obtain ⟨r1, r2⟩ := level_row (List.mem_of_getElem? hr)
        refine ⟨_, rfl, .inl ⟨rfl, _, SqL.of hg3⟩, ?_⟩
        refine ⟨_, rfl, _, rfl, fun D hD => lc_keep keep_same walk_str hD (by show sg.length < sizeLine; exact small1000 (by omega)) (fun j y => ∀ c, sg[j]? = some c → y = .str (S (r ++ [c]))) (fun _ _ => trivial) (fun i x H3 H4 R hii r1 hy hR => ?_) (fun ys H3 hly hgd r3 hDs => ?_)⟩
        · obtain ⟨rfl, c, hc, rfl⟩ := hy
          have hc' : sg[i]? = some c := by simpa [S] using hc
          refine ⟨rfl, ?_⟩
          refine ⟨_, rfl, _, rfl, S r, S [c], rfl, rfl, by rw [S_len, S_len]; exact sz (m := 10) (by simp; omega) (by decide), ?_⟩
          exact hR _ _ (Same.refl _) fun c' h => by rw [hc'] at h; rw [← Option.some.inj h, S_cat]
        have eys : ys = txs (sg.map fun c => r ++ [c]) := by
          unfold txs; rw [List.map_map]
          exact list_map (hly.trans (by simp [S])) fun j y c e1 e2 => hgd j y e1 c e2
        subst eys
        have hg4 := r3 _ _ hg3
        have hgl : (txs (((level sg i).take j).flatMap fun r => sg.map fun c => r ++ [c])).length + (txs (sg.map fun c => r ++ [c])).length ≤ sizeLine := by
          have hsub : ((level sg i).take j ++ [r]).length ≤ (level sg i).length := by rw [← take_more hr, List.length_take]; omega
          have e : ∀ l : List (List Nat), (l.flatMap fun r => sg.map fun c => r ++ [c]).length ≤ l.length * 3 := by
            intro l
            induction l with
            | nil => simp
            | cons r l ih => rw [List.flatMap_cons, List.length_append, List.length_map, List.length_cons, Nat.add_mul]; omega
          have := e ((level sg i).take j)
          rw [List.length_append, List.length_singleton] at hsub
          rw [txs_len, txs_len, List.length_map]
          exact sz (m := 800) (by omega) (by decide)
        refine ⟨g, D, _, _, rfl, rfl, hg4, hDs, hgl, ?_⟩
        refine ⟨_, _, rfl, sm_put (s3.trans r3) hg, ?_⟩
        rw [upd_same, take_more hr, List.flatMap_append]
        unfold txs
        rw [List.map_append]
        simp
      · rintro σ H2 ⟨s6, s7, rfl, s3, hg3⟩
        rw [txs_len, List.take_length] at hg3
        have hg3' : H2 g = some (.lst (txs (level sg (i + 1)))) := hg3
        have hll' := level_len hl3 (i + 1)
        refine ⟨_, rfl, _, rfl, p, g, _, _, rfl, rfl, s3 _ _ hp1, hg3', by rw [txs_len, txs_len]; rw [Nat.pow_succ] at hll'; exact sz (m := 1000) (by omega) (by decide), fun p2 hp2 => ?_⟩
        have s4 : Same H2 (upd H2 p2 (.lst (txs (upto sg i) ++ txs (level sg (i + 1))))) := sm_new hp2
        refine ⟨_, rfl, _, _, rfl, ?_⟩
        refine ⟨p2, g, _, _, _, _, rfl, (s1.trans s3).trans s4, (s1.trans s3).free hp2, ?_, s4 _ _ hg3'⟩
        rw [upd_same]; unfold txs; rw [← List.map_append]; rfl
    · rintro σ H1 ⟨p, q, s4, s5, s6, s7, rfl, s1, hp, hp1, hq1⟩
      refine ⟨_, rfl, ?_⟩
      exact k p H1 s1 hp (by rw [hp1, Int.toNat_natCast])
end
end Toy
set_option maxHeartbeats 1000000
namespace Toy
open PySem L2 C8 SX LX
local macro_rules | `(tactic| walk_at "c") => `(tactic| refine And.intro (by first | (show (0 : Int) < _; omega) | exact Or.inr ⟨by decide, by decide⟩ | exact Or.inl ⟨by decide, by decide⟩ | (exact ⟨by omega, by omega⟩)) ?_)
local macro_rules | `(tactic| walk_at "s1") => `(tactic| first | refine ⟨_, rfl, ?_⟩ | refine ⟨_, _, rfl, rfl, ?_⟩ | refine .inl ⟨_, rfl, ?_⟩ | walk_at "c")
local macro_rules | `(tactic| walk_at "s") => `(tactic| repeat (walk_at "s1"))
section
variable {P : Program} {w : World} {K : PySem.W.Frag} {mg : Str → Option Value} {base : Heap}
theorem all_true : ∀ {ys : List V}, (∀ (j : Nat) y, ys[j]? = some y → y = .bl true) → ys = (List.replicate ys.length true).map V.bl
  | [], _ => rfl
  | y :: ys, h => by
    rw [List.length_cons, List.replicate_succ, List.map_cons, ← all_true (ys := ys) fun j z e => h (j + 1) z e, h 0 y rfl]
theorem rep_all (n : Nat) : (List.replicate n true).all id = true := by simp
theorem cut_any (ys : List V) (k : Nat) : cutV ys none (some (k : Int)) = ys.take k := by
  unfold cutV
  rw [HT.sIx_none, HT.sIx_nat, List.drop_zero, Nat.sub_zero]
  rcases Nat.le_total k ys.length with h | h
  · rw [Nat.min_eq_left h]
  · rw [Nat.min_eq_right h, List.take_length, List.take_of_length_le h]
abbrev s_box : Stmt := top 29
abbrev n_box : List Str := ["script", "base", "cell", "stirred", "one"]
theorem sc_box : FnScope n_box ["script", "base"] (fnScope s_box) := fnScope_by (by decide +kernel)
def spBox : PySem.W.Frag → Sp := fun K vs H Q _ => ∃ (a : Addr) (k : Nat) (ns : List Int), vs = [.ref a, .int k] ∧ SqL K H a (ns.map V.int) ∧ ns.length ≤ 63 ∧ k ≤ 10 ∧
  ∀ (p : Addr) (H' : Hp), Same H H' → H p = none → BoxAt p H' → Q (.ref p) H'
theorem int_at {ns : List Int} {i : Nat} (h : i < ns.length) : ∃ z : Int, (ns.map V.int)[i]? = some (.int z) := ⟨ns[i], by rw [List.getElem?_map, List.getElem?_eq_getElem h]; rfl⟩
theorem ok_box (T : BT mg) {f : Addr} {fd : FuncData} (F : Def K mg "_law_box" s_box f fd) (b : Binds K fd ["script", "base"] []) : Cal P w K mg base 1 "_law_box" (spBox K) [] := by
  refine cal0 F b .nil sc_box (fun vs H Q E h => ?_) (fun cdv A outer s H vs Q E hr h => ?_)
  · obtain ⟨a, k, ns, rfl, _⟩ := h; rfl
  · obtain ⟨a, k, ns, rfl, ha, hl, hk, kk⟩ := h
    refine ⟨_, (C8.pss_cut (ps_set (i := 2) sc_box.nd rfl (.inl rfl) (pe_ifExp (pt_cmpR op_lt (pv 1) (pe_callB (lenK K) (by rfl) T.m_len PySem.boot_len (pa_cons (pv 0) pa_nil)) (nomark _)) (pe_callB call_abs (by rfl) T.m_abs PyProof.Rows.boot_abs (pa_cons (pe_callTy call_int1 (by rfl) T.m_int PyProof.Rows.boot_int (pa_cons (pe_ix (ixl K) (pv 0) (pv 1) (fun _ _ => rfl)) pa_nil)) pa_nil)) pe_int))
      (pss_cons (ps_set (i := 3) sc_box.nd rfl (.inl rfl) (pe_op op_add pe_int (pe_op op_mul pe_int (pv 1))))
      (pss_cons (ps_for PassesOwn.never rfl (pi_list (pe_slice sl_list (pv 0) po_none (po_some pe_int))) (pg_name (i := 4) sc_box.nd rfl (.inl rfl)) 
        (pss_one (ps_set (i := 3) sc_box.nd rfl (.inl rfl) (pe_op op_mod (pe_callTy call_int1 (by rfl) T.m_int PyProof.Rows.boot_int (pa_cons (pe_op op_add (pe_op op_add (pe_op op_mul (pv 3) pe_int) (pe_op op_mod (pe_callB call_abs (by rfl) T.m_abs PyProof.Rows.boot_abs (pa_cons (pe_callTy call_int1 (by rfl) T.m_int PyProof.Rows.boot_int (pa_cons (pv 4) pa_nil)) pa_nil)) pe_int)) pe_int) pa_nil)) pe_int))
        ))
      (pss_one (ps_ret (pe_lst (pa_cons (pe_ifExp (pt_cmpR op_ge (pv 2) (pe_op op_pow pe_int pe_int) (nomark _)) (pv 2) pe_int) (pa_cons (pv 3) (pa_cons pe_int pa_nil)))))
      )))), ?_⟩
    refine ⟨fun σ H' => H' = H ∧ ∃ c : Int, σ = [some (.ref a), some (.int k), some (.int c), none, none], ?_, ?_⟩
    · walk_at "s"
      refine ⟨_, _, rfl, .inl ha, ?_⟩
      walk_at "s"
      refine ite2 (fun hk => ?_) (fun hk => ?_)
      · rw [List.length_map, decide_eq_true_eq] at hk
        obtain ⟨z, hz⟩ := int_at (ns := ns) (i := k) (by omega)
        walk_at "s"
        refine ⟨_, _, _, .int z, rfl, rfl, ha, at_of rfl hz, ?_⟩
        walk_at "s"
        exact ⟨rfl, _, rfl⟩
      · exact ⟨rfl, _, rfl⟩
    · rintro σ H' ⟨rfl, c, rfl⟩
      walk_at "s"
      refine ⟨a, _, rfl, ha, fun q hq => ?_⟩
      rw [show (44 : Int) = ((44 : Nat) : Int) from rfl, cut_any, ← List.map_take]
      refine ⟨q, rfl, ⟨_, SqL.of upd_same⟩, for_it (walk_list (K := K) (a := q) (xs := (ns.take 44).map V.int)) (fun i σ H2 => Same H' H2 ∧ H2 q = some (.lst ((ns.take 44).map V.int)) ∧ ∃ (st : Int) (s4 : Option V), σ = [some (.ref a), some (.int k), some (.int c), some (.int st), s4]) ⟨sm_new hq, upd_same, _, _, rfl⟩ (fun i σ H2 _ h => SqL.of h.2.1) ?_ ?_⟩
      · rintro i x σ H2 H2' hi ⟨hs, hq2, st, s4, rfl⟩ ⟨rfl, hx⟩
        rw [List.getElem?_map] at hx
        obtain ⟨z, hz, rfl⟩ : ∃ z, (ns.take 44)[i]? = some z ∧ x = .int z := by
          cases h : (ns.take 44)[i]? with
          | none => rw [h] at hx; cases hx
          | some z => rw [h] at hx; exact ⟨z, rfl, (Option.some.inj hx).symm⟩
        walk_at "s"
        exact ⟨hs, hq2, _, _, rfl⟩
      · rintro σ H2 ⟨hs, hq2, st, s4, rfl⟩
        walk_at "s"
        refine ite2 (fun _ => ?_) (fun _ => ?_)
        · walk_at "s"
          exact ⟨(by show 3 ≤ sizeLine; decide), fun p hp => kk p _ (hs.trans (sm_new hp)) (hs.free hp) (BoxAt.of upd_same)⟩
        · walk_at "s"
          exact ⟨(by show 3 ≤ sizeLine; decide), fun p hp => kk p _ (hs.trans (sm_new hp)) (hs.free hp) (BoxAt.of upd_same)⟩
end
end Toy
set_option maxHeartbeats 1000000
namespace Toy
open PySem L2 C8 SX LX
local macro_rules | `(tactic| walk_at "c") => `(tactic| refine And.intro (by first | (show (0 : Int) < _; omega) | exact Or.inr ⟨by decide, by decide⟩ | exact Or.inl ⟨by decide, by decide⟩ | (exact ⟨by omega, by omega⟩)) ?_)
local macro_rules | `(tactic| walk_at "s1") => `(tactic| first | refine ⟨_, rfl, ?_⟩ | refine ⟨_, _, rfl, rfl, ?_⟩ | refine .inl ⟨_, rfl, ?_⟩ | walk_at "c")
local macro_rules | `(tactic| walk_at "s") => `(tactic| repeat (walk_at "s1"))
section
variable {P : Program} {w : World} {K : PySem.W.Frag} {mg : Str → Option Value} {base : Heap}
abbrev s_isseq : Stmt := top 9
abbrev n_isseq : List Str := ["value"]
theorem sc_isseq : FnScope n_isseq ["value"] (fnScope s_isseq) := fnScope_by (by decide +kernel)
def spIsSeq : Sp := fun vs H Q _ => ∃ (p : Addr) (b : Bool) (xs : List V), vs = [.ref p] ∧ H p = some (seqB b xs) ∧ ∀ H', Same H H' → Q (.bl true) H'
theorem ok_isseq (T : BT mg) {f : Addr} {fd : FuncData} (F : Def K mg "is_sequence" s_isseq f fd) (b : Binds K fd ["value"] []) : Cal P w K mg base 1 "is_sequence" spIsSeq [] := by
  refine cal0 F b .nil sc_isseq (fun vs H Q E h => ?_) (fun cdv A outer s H vs Q E hr h => ?_)
  · obtain ⟨p, b, xs, rfl, _⟩ := h; rfl
  · obtain ⟨p, b, xs, rfl, hp, k⟩ := h
    refine ⟨_, (pss_one (ps_ret (pe_callB (isiTK K) (by rfl) T.m_isinstance PyProof.Rows.boot_isinstance (pa_cons (pv 0) (pa_cons (pe_tup (pa_cons (pe_bltn (v := .ty "list") (by rfl) T.m_list PyProof.Rows.boot_list rfl) (pa_cons (pe_bltn (v := .ty "tuple") (by rfl) T.m_tuple PyProof.Rows.boot_tuple rfl) pa_nil))) pa_nil))))
      ), ?_⟩
    walk_at "s"
    refine ⟨by decide, fun t ht => ?_⟩
    have hp2 := (sm_new (o := .tup [.ty "list", .ty "tuple"]) ht) _ _ hp
    cases b
    · exact ⟨_, t, _, _, _, true, rfl, upd_same, .cons (.ty _) (.cons (.ty _) .nil), .base (.tup hp2), kitAny_cons (b := false) (kit_ty (by decide +kernel)) (fun _ => kitAny_cons (b := true) (kit_ty (by decide +kernel)) (fun h => nomatch h) (fun _ => rfl)) (fun h => nomatch h), k _ (sm_new ht)⟩
    · exact ⟨_, t, _, _, _, true, rfl, upd_same, .cons (.ty _) (.cons (.ty _) .nil), .base (.lst hp2), kitAny_cons (b := true) (kit_ty (by decide +kernel)) (fun h => nomatch h) (fun _ => rfl), k _ (sm_new ht)⟩
abbrev s_isrow : Stmt := top 12
abbrev n_isrow : List Str := ["value", "signs"]
theorem sc_isrow : FnScope n_isrow ["value", "signs"] (fnScope s_isrow) := fnScope_by (by decide +kernel)
instance (sg l : List Nat) : Decidable (Ov sg l) := by unfold Ov; infer_instance
def spIsRow : Sp := fun vs H Q _ => ∃ (sg l : List Nat), vs = [.str (S l), .str (S sg)] ∧ l.length ≤ 1000 ∧ Q (.bl (decide (Ov sg l))) H
theorem ok_isrow (T : BT mg) {f : Addr} {fd : FuncData} (F : Def K mg "is_row" s_isrow f fd) (b : Binds K fd ["value", "signs"] []) : Cal P w K mg base 1 "is_row" spIsRow [] := by
  refine cal0 F b .nil sc_isrow (fun vs H Q E h => ?_) (fun cdv A outer s H vs Q E hr h => ?_)
  · obtain ⟨sg, l, rfl, _⟩ := h; rfl
  · obtain ⟨sg, l, rfl, hl, k⟩ := h
    refine ⟨_, (pss_one (ps_ret (pe_and (pe_callB (isiK K) (by rfl) T.m_isinstance PyProof.Rows.boot_isinstance (pa_cons (pv 0) (pa_cons (pe_bltn (v := .ty "str") (by rfl) T.m_str PyProof.Rows.boot_str rfl) pa_nil))) (pe_one (pe_cmpR op_eq (pe_bm PySem.F.plainAttrs_str PySem.F.slot_str_strip PySem.F.type_str_strip mt_stripChars (pv 0) (pa_cons (pv 1) pa_nil)) pe_str (nomark _)))))
      ), ?_⟩
    walk_at "s"
    refine ⟨_, _, _, _, true, rfl, .ty _, .base (.str _), kit_ty (by decide +kernel), true, rfl, ?_⟩
    refine iteT ?_
    refine ⟨_, rfl, rfl, _, rfl, S l, S sg, rfl, rfl, by rw [S_len]; exact sz hl (by decide), rfl, ?_⟩
    have e : V.bl (decide (V.str (Txt.stripChars (S l) (S sg)) = V.str (Str.ofString ""))) = V.bl (decide (Ov sg l)) := by
      rw [s_nil]
      refine congrArg V.bl (decide_eq_decide.mpr ?_)
      rw [V.str.injEq]
      exact strip_nil
    show Q (V.bl (decide (V.str (Txt.stripChars (S l) (S sg)) = V.str (Str.ofString "")))) H
    rw [e]
    exact k
abbrev s_isletters : Stmt := top 10
abbrev n_isletters : List Str := ["value"]
theorem sc_isletters : FnScope n_isletters ["value"] (fnScope s_isletters) := fnScope_by (by decide +kernel)
theorem ov_az {l : List Nat} : Ov az l ↔ ∀ c ∈ l, 97 ≤ c ∧ c ≤ 122 := ⟨fun h c hc => az_mem.mp (h c hc), fun h c hc => az_mem.mpr (h c hc)⟩
def spIsLetters : Sp := fun vs H Q _ => ∃ (l : List Nat), vs = [.str (S l)] ∧ l.length ≤ 1000 ∧ Q (.bl (decide (Ov az l))) H
theorem ok_isletters (T : BT mg) {tz : Tok} (mgZ : mg "_LETTERS" = some (.str (S az) tz)) (c_isrow : Cal P w K mg base 1 "is_row" spIsRow []) {f : Addr} {fd : FuncData} (F : Def K mg "is_letters" s_isletters f fd) (b : Binds K fd ["value"] []) : Cal P w K mg base 2 "is_letters" spIsLetters [] := by
  refine cal0 F b .nil sc_isletters (fun vs H Q E h => ?_) (fun cdv A outer s H vs Q E hr h => ?_)
  · obtain ⟨l, rfl, _⟩ := h; rfl
  · obtain ⟨l, rfl, hl, k⟩ := h
    refine ⟨_, (pss_one (ps_ret (pe_c c_isrow hr (by first | decide | omega) (by rfl) (pa_cons (pv 0) (pa_cons (pe_glob (v := .str (S az)) (by rfl) mgZ ⟨_, rfl⟩) pa_nil))))
      ), ?_⟩
    exact ⟨_, rfl, az, l, rfl, hl, k⟩
abbrev s_issigns : Stmt := top 11
abbrev n_issigns : List Str := ["value", "one", "other"]
theorem sc_issigns : FnScope n_issigns ["value"] (fnScope s_issigns) := fnScope_by (by decide +kernel)
def spIsSigns : Sp := fun vs H Q _ => ∃ (sg : List Nat), vs = [.str (S sg)] ∧ Sg sg ∧ ∀ H', Same H H' → Q (.bl true) H'
theorem sg_asc {sg : List Nat} (h : Sg sg) (i c d : Nat) (e1 : sg[i]? = some c) (e2 : sg[i + 1]? = some d) : c < d := by
  obtain ⟨a1, a2⟩ := List.getElem?_eq_some_iff.mp e1
  obtain ⟨b1, b2⟩ := List.getElem?_eq_some_iff.mp e2
  have := List.pairwise_iff_getElem.mp h.1 i (i + 1) a1 b1 (Nat.lt_succ_self i)
  rw [a2, b2] at this; exact this
theorem ok_issigns (T : BT mg) (c_isletters : Cal P w K mg base 2 "is_letters" spIsLetters []) {f : Addr} {fd : FuncData} (F : Def K mg "is_signs" s_issigns f fd) (b : Binds K fd ["value"] []) : Cal P w K mg base 3 "is_signs" spIsSigns [] := by
  refine cal0 F b .nil sc_issigns (fun vs H Q E h => ?_) (fun cdv A outer s H vs Q E hr h => ?_)
  · obtain ⟨sg, rfl, _⟩ := h; rfl
  · obtain ⟨sg, rfl, hm, k⟩ := h
    have hlen : 1 ≤ sg.length ∧ sg.length ≤ 3 := ⟨hm.2.1, hm.2.2.1⟩
    refine ⟨_, (pss_cons (ps_if (PW.pt (pw_or (pt_not (pt_val (pe_c c_isletters hr (by first | decide | omega) (by rfl) (pa_cons (pv 0) pa_nil)))) (pw_or (pt_cmpR op_lt (pe_callB call_len_str (by rfl) T.m_len PySem.boot_len (pa_cons (pv 0) pa_nil)) pe_int (nomark _)) (pw_or1 (pt_cmpR op_gt (pe_callB call_len_str (by rfl) T.m_len PySem.boot_len (pa_cons (pv 0) pa_nil)) pe_int (nomark _)))))) 
        (pss_one (ps_ret pe_bl)
        )
       pss_nil)
      (pss_one (ps_ret (pe_callB (cr_all rfl) (by rfl) T.m_all PyProof.Rows.boot_all (pa_cons (pe_lc (own := [("one", 1), ("other", 2)]) rfl sc_issigns.nd (pi_zipX (by rfl) T.m_zip (pa_cons (pv 0) (pa_cons (pe_slice sl_txt (pv 0) (po_some pe_int) po_none) pa_nil))) (blkOk_by (N := n_issigns) (sc := fnScope s_issigns) (by decide +kernel)) (fun _ _ _ _ _ => (tupK K 2 (pgs_cons (pg_name (i := 1) sc_issigns.nd rfl (.inl rfl)) (pgs_cons (pg_name (i := 2) sc_issigns.nd rfl (.inl rfl)) pgs_nil)))) (fun _ _ _ _ _ => pts_nil) (fun _ _ _ _ _ => (pe_cmpR op_lt_str (pv 1) (pv 2) (nomark _)))) pa_nil)))
      )), ?_⟩
    refine ⟨_, rfl, sg, rfl, by omega, ?_⟩
    rw [decide_eq_true (ov_az.mpr hm.2.2.2)]
    have hsl : (S sg).length ≤ sizeLine := by rw [S_len]; exact Nat.le_trans hlen.2 (by decide)
    walk_at "s"
    refine ⟨hsl, ?_⟩
    walk_at "s"
    refine iteN (by rw [S_len]; exact decide_eq_false (by omega)) ?_
    walk_at "s"
    refine ⟨hsl, ?_⟩
    walk_at "s"
    refine iteN (by rw [S_len]; exact decide_eq_false (by omega)) ?_
    walk_at "s"
    refine ⟨hsl, _, _, .txt (S sg), .txt (S (sg.drop 1)), rfl, rfl, slice_from (by decide), trivial, trivial, fun D hD => ?_⟩
    refine lc_keep (n := min (sg.map fun c => V.str (S [c])).length ((sg.drop 1).map fun c => V.str (S [c])).length) keep_same walk_zipX hD (by rw [List.length_map]; exact Nat.lt_of_le_of_lt (Nat.min_le_left _ _) (small1000 (Nat.le_trans hlen.2 (by decide)))) (fun _ y => y = .bl true) (fun _ _ => ⟨rfl, rfl⟩) (fun i x H2 H3 R hii r1 hy hR => ?_) (fun ys H2 hly hg r1 hDs => ?_)
    · obtain ⟨t, x1, x2, rfl, ht, rfl, e1, e2⟩ := hy
      have e1 : (sg.map fun c => V.str (S [c]))[i]? = some x1 := e1
      have e2 : ((sg.drop 1).map fun c => V.str (S [c]))[i]? = some x2 := e2
      rw [List.getElem?_map] at e1 e2
      rw [List.getElem?_drop] at e2
      cases q1 : sg[i]? with
      | none => rw [q1] at e1; cases e1
      | some c =>
        cases q2 : sg[1 + i]? with
        | none => rw [q2] at e2; cases e2
        | some d =>
          rw [q1] at e1; rw [q2] at e2
          cases e1; cases e2
          have hcd := sg_asc hm i c d q1 (by rw [Nat.add_comm]; exact q2)
          refine ⟨t, _, rfl, .inl (.inl upd_same), rfl, _, _, rfl, _, _, rfl, rfl, rfl, ?_⟩
          walk_at "s"
          refine hR _ _ (sm_new ht) (congrArg V.bl ?_)
          show decide (([c] : List Nat) < [d]) = true
          rw [decide_eq_true_eq, List.cons_lt_cons_iff]
          exact .inl hcd
    · refine ⟨D, List.replicate ys.length true, rfl, SqL.of (by rw [← all_true hg]; exact hDs), ?_⟩
      rw [rep_all]
      exact k H2 r1
abbrev s_isname : Stmt := top 13
abbrev n_isname : List Str := ["value"]
theorem sc_isname : FnScope n_isname ["value"] (fnScope s_isname) := fnScope_by (by decide +kernel)
def no10 : List (List Nat) := [[98, 97, 99, 107], [105, 115], [110, 111, 116], [97, 110, 100], [111, 114], [105, 102], [116, 104, 101, 110], [102, 111, 114], [97, 108, 108], [115, 111, 109, 101]]
def Name (m : List Nat) : Prop := 2 ≤ m.length ∧ m.length ≤ 6 ∧ (∀ c ∈ m, 97 ≤ c ∧ c ≤ 122) ∧ m ∉ no10
instance (m : List Nat) : Decidable (Name m) := by unfold Name; infer_instance
def spIsName : Sp := fun vs H Q _ => ∃ (m : List Nat), vs = [.str (S m)] ∧ m.length ≤ 16000000 ∧ Q (.bl (decide (Name m))) H
theorem ok_isname (T : BT mg) {NN : Addr} (mgN : mg "_NO_NAMES" = some (.ref NN)) (hN : ∀ H, SqT K H NN (txs no10)) (c_isletters : Cal P w K mg base 2 "is_letters" spIsLetters []) {f : Addr} {fd : FuncData} (F : Def K mg "is_name" s_isname f fd) (b : Binds K fd ["value"] []) : Cal P w K mg base 3 "is_name" spIsName [] := by
  refine cal0 F b .nil sc_isname (fun vs H Q E h => ?_) (fun cdv A outer s H vs Q E hr h => ?_)
  · obtain ⟨m, rfl, _⟩ := h; rfl
  · obtain ⟨m, rfl, hm, k⟩ := h
    refine ⟨_, (pss_one (ps_ret (pe_and (pe_callB (isiK K) (by rfl) T.m_isinstance PyProof.Rows.boot_isinstance (pa_cons (pv 0) (pa_cons (pe_bltn (v := .ty "str") (by rfl) T.m_str PyProof.Rows.boot_str rfl) pa_nil))) (pe_and (pe_chain op_le op_le pe_int (pe_callB call_len_str (by rfl) T.m_len PySem.boot_len (pa_cons (pv 0) pa_nil)) pe_int) (pe_and (pe_c c_isletters hr (by first | decide | omega) (by rfl) (pa_cons (pv 0) pa_nil)) (pe_one (pe_cmpR (notInK K) (pv 0) (pe_glob (v := .ref NN) (by rfl) mgN rfl) rfl))))))
      ), ?_⟩
    have hsl : (S m).length ≤ sizeLine := by rw [S_len]; exact Nat.le_trans hm (by decide)
    walk_at "s"
    refine ⟨_, _, _, _, true, rfl, .ty _, .base (.str _), kit_ty (by decide +kernel), true, rfl, ?_⟩
    refine iteT ?_
    have fin : ∀ {b : Bool}, (b = true ↔ Name m) → Q (.bl b) H := fun {b} h => by
      have : b = decide (Name m) := by
        rw [Bool.eq_iff_iff, decide_eq_true_eq]; exact h
      rw [this]; exact k
    refine ⟨_, rfl, S m, rfl, hsl, _, _, rfl, rfl, _, rfl, ?_⟩
    rw [S_len]
    by_cases h2 : 2 ≤ m.length
    · refine iteB (decide_eq_true (by omega)) ?_
      refine ⟨_, _, rfl, rfl, ?_⟩
      by_cases h6 : m.length ≤ 6
      · refine ⟨_, rfl, iteB (decide_eq_true (by omega)) ?_⟩
        refine ⟨_, rfl, m, rfl, by omega, _, rfl, ?_⟩
        by_cases ho : Ov az m
        · refine iteB (decide_eq_true ho) ?_
          refine ⟨_, rfl, NN, txs no10, rfl, .inr (hN H), rfl, flat_txs _, ?_⟩
          rw [inV_txs]
          refine fin ?_
          rw [if_pos rfl, Bool.not_eq_true', decide_eq_false_iff_not]
          exact ⟨fun h => ⟨h2, h6, ov_az.mp ho, h⟩, fun h => h.2.2.2⟩
        · refine iteN (decide_eq_false ho) ?_
          exact fin ⟨fun h => (nomatch h), fun h => absurd (ov_az.mpr h.2.2.1) ho⟩
      · refine ⟨_, rfl, iteN (decide_eq_false (by omega)) ?_⟩
        exact fin ⟨fun h => (nomatch h), fun h => absurd h.2.1 h6⟩
    · refine iteN (decide_eq_false (by omega)) ⟨_, rfl, iteN rfl ?_⟩
      exact fin ⟨fun h => (nomatch h), fun h => absurd h.1 h2⟩
theorem all_of {b : Bool} {xs : List V} {p : Addr} {K : PySem.W.Frag} {H : Hp} (h : H p = some (seqB b xs)) {H' : Hp} (s : Same H H') : SqB K b H' p xs := SqB.of (s _ _ h)
abbrev s_ismarks : Stmt := top 25
abbrev n_ismarks : List Str := ["value", "mark"]
theorem sc_ismarks : FnScope n_ismarks ["value"] (fnScope s_ismarks) := fnScope_by (by decide +kernel)
def spIsMarks : Sp := fun vs H Q _ => ∃ (p : Addr) (b : Bool) (ms : List (List Nat)), vs = [.ref p] ∧ H p = some (seqB b (txs ms)) ∧ 1 ≤ ms.length ∧ ms.length < 60 ∧ ms.Nodup ∧ (∀ m ∈ ms, Name m) ∧ ∀ H', Same H H' → Q (.bl true) H'
theorem ok_ismarks (T : BT mg) (c_isseq : Cal P w K mg base 1 "is_sequence" spIsSeq []) (c_isname : Cal P w K mg base 3 "is_name" spIsName []) {f : Addr} {fd : FuncData} (F : Def K mg "_is_marks" s_ismarks f fd) (b : Binds K fd ["value"] []) : Cal P w K mg base 4 "_is_marks" spIsMarks [] := by
  refine cal0 F b .nil sc_ismarks (fun vs H Q E h => ?_) (fun cdv A outer s H vs Q E hr h => ?_)
  · obtain ⟨p, b, ms, rfl, _⟩ := h; rfl
  · obtain ⟨p, b, ms, rfl, hp, h1, h60, nd, hms, k⟩ := h
    refine ⟨_, (pss_cons (ps_if (PW.pt (pw_or (pt_not (pt_val (pe_c c_isseq hr (by first | decide | omega) (by rfl) (pa_cons (pv 0) pa_nil)))) (pw_or (pt_cmpR op_eq (pe_callB (lenK K) (by rfl) T.m_len PySem.boot_len (pa_cons (pv 0) pa_nil)) pe_int (nomark _)) (pw_or1 (pt_not (pt_val (pe_callB (cr_all rfl) (by rfl) T.m_all PyProof.Rows.boot_all (pa_cons (pe_lc (own := [("mark", 1)]) rfl sc_ismarks.nd (pi_seq (pv 0)) (blkOk_by (N := n_ismarks) (sc := fnScope s_ismarks) (by decide +kernel)) (fun _ _ _ _ _ => (pg_name (i := 1) sc_ismarks.nd rfl (.inl rfl))) (fun _ _ _ _ _ => pts_nil) (fun _ _ _ _ _ => (pe_c c_isname hr (by first | decide | omega) (by rfl) (pa_cons (pv 1) pa_nil)))) pa_nil)))))))) 
        (pss_one (ps_ret pe_bl)
        )
       pss_nil)
      (pss_one (ps_ret (pe_cmpR op_eq (pe_lenSetT rfl (by rfl) T.m_len (by rfl) T.m_set (pv 0)) (pe_callB (lenK K) (by rfl) T.m_len PySem.boot_len (pa_cons (pv 0) pa_nil)) (nomark _)))
      )), ?_⟩
    refine ⟨_, rfl, p, b, txs ms, rfl, hp, fun H1 s1 => ?_⟩
    refine ⟨true, rfl, ?_⟩
    refine iteN rfl ?_
    refine ⟨_, rfl, p, _, rfl, (all_of hp s1).or, rfl, _, rfl, ?_⟩
    refine iteN (by rw [txs_len]; exact decide_eq_false (by show ¬ V.int (ms.length : Int) = V.int 0; intro h; have := V.int.inj h; omega)) ?_
    have hB1 : SqB K b H1 p (txs ms) := all_of hp s1
    refine ⟨_, rfl, p, b, txs ms, rfl, hB1, fun D hD => lc_keep keep_same (walk_seq (K := K) (b := b) (a := p) (xs := txs ms)) hD (by rw [txs_len]; exact small1000 (by omega)) (fun _ y => y = .bl true) (fun H2 r => hB1.same r) (fun i x H2 H3 R hii r1 hy hR => ?_) (fun ys H2 hly hg r1 hDs => ?_)⟩
    · obtain ⟨rfl, e⟩ := hy
      obtain ⟨m, hm, rfl⟩ := txs_get e
      refine ⟨rfl, ?_⟩
      have hnm := hms m (List.mem_of_getElem? hm)
      refine ⟨_, rfl, m, rfl, by have := hnm.2.1; omega, ?_⟩
      rw [decide_eq_true hnm]
      exact hR _ _ (Same.refl _) rfl
    · refine ⟨D, List.replicate ys.length true, rfl, SqL.of (by rw [← all_true hg]; exact hDs), ?_⟩
      rw [rep_all]
      have hB2 : SqB K b H2 p (txs ms) := hB1.same r1
      refine ⟨_, rfl, ?_⟩
      refine ⟨_, rfl, p, ms, rfl, hB2.or, h60, nd, ?_⟩
      refine ⟨_, rfl, p, _, rfl, hB2.or, rfl, ?_⟩
      rw [txs_len, decide_eq_true rfl]
      exact k H2 (s1.trans r1)
abbrev s_istargets : Stmt := top 27
abbrev n_istargets : List Str := ["value", "signs", "marks", "mark"]
theorem sc_istargets : FnScope n_istargets ["value", "signs", "marks"] (fnScope s_istargets) := fnScope_by (by decide +kernel)
def spIsTargets : Sp := fun vs H Q _ => ∃ (p q : Addr) (b c : Bool) (ts ms : List (List Nat)) (sg : List Nat), vs = [.ref p, .str (S sg), .ref q] ∧ H p = some (seqB b (txs ts)) ∧ H q = some (seqB c (txs ms)) ∧ ts.length = sg.length ∧ sg.length ≤ 3 ∧ (∀ t ∈ ts, t ∈ ms) ∧ ∀ H', Same H H' → Q (.bl true) H'
theorem ok_istargets (T : BT mg) (c_isseq : Cal P w K mg base 1 "is_sequence" spIsSeq []) {f : Addr} {fd : FuncData} (F : Def K mg "_is_targets" s_istargets f fd) (b : Binds K fd ["value", "signs", "marks"] []) : Cal P w K mg base 2 "_is_targets" spIsTargets [] := by
  refine cal0 F b .nil sc_istargets (fun vs H Q E h => ?_) (fun cdv A outer s H vs Q E hr h => ?_)
  · obtain ⟨p, q, b, c, ts, ms, sg, rfl, _⟩ := h; rfl
  · obtain ⟨p, q, b, c, ts, ms, sg, rfl, hp, hq, hl, hl3, ht, k⟩ := h
    refine ⟨_, (pss_cons (ps_if (PW.pt (pw_or (pt_not (pt_val (pe_c c_isseq hr (by first | decide | omega) (by rfl) (pa_cons (pv 0) pa_nil)))) (pw_or1 (pt_cmpR op_ne (pe_callB (lenK K) (by rfl) T.m_len PySem.boot_len (pa_cons (pv 0) pa_nil)) (pe_callB call_len_str (by rfl) T.m_len PySem.boot_len (pa_cons (pv 1) pa_nil)) (nomark _))))) 
        (pss_one (ps_ret pe_bl)
        )
       pss_nil)
      (pss_one (ps_ret (pe_callB (cr_all rfl) (by rfl) T.m_all PyProof.Rows.boot_all (pa_cons (pe_lc (own := [("mark", 3)]) rfl sc_istargets.nd (pi_seq (pv 0)) (blkOk_by (N := n_istargets) (sc := fnScope s_istargets) (by decide +kernel)) (fun _ _ _ _ _ => (pg_name (i := 3) sc_istargets.nd rfl (.inl rfl))) (fun _ _ _ _ _ => pts_nil) (fun _ _ _ _ _ => (pe_cmpR (inK K) (pv 3) (pv 2) rfl))) pa_nil)))
      )), ?_⟩
    refine ⟨_, rfl, p, b, txs ts, rfl, hp, fun H1 s1 => ?_⟩
    refine ⟨true, rfl, ?_⟩
    refine iteN rfl ?_
    have hB1 : SqB K b H1 p (txs ts) := all_of hp s1
    have hC1 : SqB K c H1 q (txs ms) := all_of hq s1
    refine ⟨_, rfl, p, _, rfl, hB1.or, _, rfl, _, rfl, by rw [S_len]; exact sz (m := 3) hl3 (by decide), rfl, _, rfl, ?_⟩
    refine iteN (by rw [txs_len, S_len, hl]; simp) ?_
    refine ⟨_, rfl, p, b, txs ts, rfl, hB1, fun D hD => lc_keep keep_same (walk_seq (K := K) (b := b) (a := p) (xs := txs ts)) hD (by rw [txs_len]; exact small1000 (by omega)) (fun _ y => y = .bl true) (fun H2 r => hB1.same r) (fun i x H2 H3 R hii r1 hy hR => ?_) (fun ys H2 hly hg r1 hDs => ?_)⟩
    · obtain ⟨rfl, e⟩ := hy
      obtain ⟨m, hm, rfl⟩ := txs_get e
      refine ⟨rfl, ?_⟩
      refine ⟨_, rfl, _, rfl, q, txs ms, rfl, (hC1.same r1).or, rfl, flat_txs _, ?_⟩
      refine hR _ _ (Same.refl _) ?_
      rw [inV_txs, decide_eq_true (ht m (List.mem_of_getElem? hm))]; rfl
    · refine ⟨D, List.replicate ys.length true, rfl, SqL.of (by rw [← all_true hg]; exact hDs), ?_⟩
      rw [rep_all]
      exact k H2 (s1.trans r1)
abbrev s_issteps : Stmt := top 26
abbrev n_issteps : List Str := ["value", "signs", "marks", "targets"]
theorem sc_issteps : FnScope n_issteps ["value", "signs", "marks"] (fnScope s_issteps) := fnScope_by (by decide +kernel)
def spIsSteps : Sp := fun vs H Q _ => ∃ (p q : Addr) (b b2 c : Bool) (ps : List Addr) (tss : List (List (List Nat))) (ms : List (List Nat)) (sg : List Nat), vs = [.ref p, .str (S sg), .ref q] ∧ H p = some (seqB b (ps.map V.ref)) ∧ H q = some (seqB c (txs ms)) ∧ sg.length ≤ 3 ∧ ms.length < 60 ∧ ps.length = ms.length ∧
  tss.length = ps.length ∧ (∀ (i : Nat) (a : Addr) (ts : List (List Nat)), ps[i]? = some a → tss[i]? = some ts → H a = some (seqB b2 (txs ts)) ∧ ts.length = sg.length ∧ ∀ t ∈ ts, t ∈ ms) ∧ ∀ H', Same H H' → Q (.bl true) H'
theorem ok_issteps (T : BT mg) (c_isseq : Cal P w K mg base 1 "is_sequence" spIsSeq []) (c_istargets : Cal P w K mg base 2 "_is_targets" spIsTargets []) {f : Addr} {fd : FuncData} (F : Def K mg "_is_steps" s_issteps f fd) (b : Binds K fd ["value", "signs", "marks"] []) : Cal P w K mg base 3 "_is_steps" spIsSteps [] := by
  refine cal0 F b .nil sc_issteps (fun vs H Q E h => ?_) (fun cdv A outer s H vs Q E hr h => ?_)
  · obtain ⟨p, q, b, b2, c, ps, tss, ms, sg, rfl, _⟩ := h; rfl
  · obtain ⟨p, q, b, b2, c, ps, tss, ms, sg, rfl, hp, hq, hl3, h60, hl, hlt, hts, k⟩ := h
    refine ⟨_, (pss_cons (ps_if (PW.pt (pw_or (pt_not (pt_val (pe_c c_isseq hr (by first | decide | omega) (by rfl) (pa_cons (pv 0) pa_nil)))) (pw_or1 (pt_cmpR op_ne (pe_callB (lenK K) (by rfl) T.m_len PySem.boot_len (pa_cons (pv 0) pa_nil)) (pe_callB (lenK K) (by rfl) T.m_len PySem.boot_len (pa_cons (pv 2) pa_nil)) (nomark _))))) 
        (pss_one (ps_ret pe_bl)
        )
       pss_nil)
      (pss_one (ps_ret (pe_callB (cr_all rfl) (by rfl) T.m_all PyProof.Rows.boot_all (pa_cons (pe_lc (own := [("targets", 3)]) rfl sc_issteps.nd (pi_seq (pv 0)) (blkOk_by (N := n_issteps) (sc := fnScope s_issteps) (by decide +kernel)) (fun _ _ _ _ _ => (pg_name (i := 3) sc_issteps.nd rfl (.inl rfl))) (fun _ _ _ _ _ => pts_nil) (fun _ _ _ _ _ => (pe_c c_istargets hr (by first | decide | omega) (by rfl) (pa_cons (pv 3) (pa_cons (pv 1) (pa_cons (pv 2) pa_nil)))))) pa_nil)))
      )), ?_⟩
    refine ⟨_, rfl, p, b, _, rfl, hp, fun H1 s1 => ?_⟩
    refine ⟨true, rfl, ?_⟩
    refine iteN rfl ?_
    have hB1 : SqB K b H1 p (ps.map V.ref) := all_of hp s1
    have hC1 : SqB K c H1 q (txs ms) := all_of hq s1
    refine ⟨_, rfl, p, _, rfl, hB1.or, _, rfl, q, _, rfl, hC1.or, rfl, _, rfl, ?_⟩
    refine iteN (by rw [txs_len, List.length_map, hl]; simp) ?_
    refine ⟨_, rfl, p, b, ps.map V.ref, rfl, hB1, fun D hD => lc_keep keep_same (walk_seq (K := K) (b := b) (a := p) (xs := ps.map V.ref)) hD (by rw [List.length_map]; exact small1000 (by omega)) (fun _ y => y = .bl true) (fun H2 r => hB1.same r) (fun i x H2 H3 R hii r1 hy hR => ?_) (fun ys H2 hly hg r1 hDs => ?_)⟩
    · obtain ⟨rfl, e⟩ := hy
      rw [List.getElem?_map] at e
      have hi : i < ps.length := by rw [List.length_map] at hii; exact hii
      have hi2 : i < tss.length := by omega
      rw [List.getElem?_eq_getElem hi] at e
      cases e
      obtain ⟨h1, h2, h3⟩ := hts i _ _ (List.getElem?_eq_getElem hi) (List.getElem?_eq_getElem hi2)
      refine ⟨rfl, ?_⟩
      refine ⟨_, rfl, _, rfl, _, rfl, ps[i], q, b2, c, tss[i], ms, sg, rfl, (s1.trans r1) _ _ h1, (s1.trans r1) _ _ hq, h2, hl3, h3, fun H4 s4 => hR _ _ s4 rfl⟩
    · refine ⟨D, List.replicate ys.length true, rfl, SqL.of (by rw [← all_true hg]; exact hDs), ?_⟩
      rw [rep_all]
      exact k H2 (s1.trans r1)
end
end Toy
set_option maxHeartbeats 4000000
namespace Toy
open PySem L2 C8 SX LX
local macro_rules | `(tactic| walk_at "c") => `(tactic| refine And.intro (by first | (show (0 : Int) < _; omega) | exact Or.inr ⟨by decide, by decide⟩ | exact Or.inl ⟨by decide, by decide⟩ | (exact ⟨by omega, by omega⟩)) ?_)
local macro_rules | `(tactic| walk_at "s1") => `(tactic| first | refine ⟨_, rfl, ?_⟩ | refine ⟨_, _, rfl, rfl, ?_⟩ | refine .inl ⟨_, rfl, ?_⟩ | walk_at "c")
local macro_rules | `(tactic| walk_at "s") => `(tactic| repeat (walk_at "s1"))
section
variable {P : Program} {w : World} {K : PySem.W.Frag} {mg : Str → Option Value} {base : Heap}
structure CR (K : PySem.W.Frag) (C : Addr) : Prop where
  cl : Cls K C
  nS : PySem.W.findIn K (.ref C) "signs" = some none
  nM : PySem.W.findIn K (.ref C) "marks" = some none
  nF : PySem.W.findIn K (.ref C) "first" = some none
  nT : PySem.W.findIn K (.ref C) "steps" = some none
  nN : PySem.W.findIn K (.ref C) "_numbers" = some none
  nL : PySem.W.findIn K (.ref C) "_leads" = some none
  nC : PySem.W.findIn K (.ref C) "_columns" = some none
def rdF (sg : List Nat) (m : Addr) (f : List Nat) (st nu le : Addr) (t : List (Str × V)) : List (Str × V) :=
  ("signs", .str (S sg)) :: ("marks", .ref m) :: ("first", .str (S f)) :: ("steps", .ref st) :: ("_numbers", .ref nu) :: ("_leads", .ref le) :: t
def numK (ms : List (List Nat)) : List (Key × V) := (List.range ms.length).map fun i => (tk (ms.getD i []), .int (i : Nat))
structure RdrAt (C : Addr) (H : Hp) (a : Addr) (sg : List Nat) (ms : List (List Nat)) (f : List Nat) (tg : List Nat → Nat → List Nat) (dx m st nu le : Addr) (sa la : List Nat → Addr) (t : List (Str × V)) : Prop where
  ha : H a = some (.ins C dx (rdF sg m f st nu le t))
  hm : H m = some (.tup (txs ms))
  hst : H st = some (.tup (ms.map fun x => .ref (sa x)))
  hsa : ∀ x ∈ ms, H (sa x) = some (.tup (txs (sg.map (tg x))))
  hnu : H nu = some (.dK (numK ms))
  hle : H le = some (.dK (leK ms la))
  hla : ∀ x ∈ ms, H (la x) = some (.dK (laK sg (tg x)))
def colI (ms : List (List Nat)) (tg : List Nat → Nat → List Nat) (c : Nat) : List V := ms.map fun x => V.int (ms.idxOf (tg x c) : Nat)
def coK (sg : List Nat) (ca : Nat → Addr) : List (Key × V) := sg.map fun c => (tk [c], .ref (ca c))
structure ColAt (H : Hp) (co : Addr) (sg : List Nat) (ms : List (List Nat)) (tg : List Nat → Nat → List Nat) (ca : Nat → Addr) : Prop where
  hco : H co = some (.dK (coK sg ca))
  hca : ∀ c ∈ sg, H (ca c) = some (.tup (colI ms tg c))
def TailOk (t : List (Str × V)) : Prop := t = [] ∨ ∃ co : Addr, t = ([("_columns", .ref co)] : List (Str × V))
def Rdr0 (C : Addr) (H : Hp) (a : Addr) (sg : List Nat) (ms : List (List Nat)) (f : List Nat) (tg : List Nat → Nat → List Nat) : Prop := ∃ dx m st nu le sa la t, TailOk t ∧ RdrAt C H a sg ms f tg dx m st nu le sa la t
def Rdr (C : Addr) (H : Hp) (a : Addr) (sg : List Nat) (ms : List (List Nat)) (f : List Nat) (tg : List Nat → Nat → List Nat) : Prop := ∃ dx m st nu le sa la co ca, RdrAt C H a sg ms f tg dx m st nu le sa la [("_columns", .ref co)] ∧ ColAt H co sg ms tg ca
theorem Rdr.to0 {C : Addr} {H : Hp} {a : Addr} {sg : List Nat} {ms : List (List Nat)} {f : List Nat} {tg : List Nat → Nat → List Nat} (r : Rdr C H a sg ms f tg) : Rdr0 C H a sg ms f tg :=
  let ⟨dx, m, st, nu, le, sa, la, co, ca, h, _⟩ := r; ⟨dx, m, st, nu, le, sa, la, _, .inr ⟨co, rfl⟩, h⟩
theorem putF_new {f : Str} {v : V} : ∀ {fs : List (Str × V)}, (∀ p ∈ fs, ¬ p.1 = f) → putF f v fs = fs ++ [(f, v)]
  | [], _ => rfl
  | (g, u) :: fs, h => by
    show (if g = f then _ else (g, u) :: putF f v fs) = _
    rw [if_neg (h (g, u) List.mem_cons_self), putF_new fun p hp => h p (List.mem_cons_of_mem _ hp)]; rfl
theorem nm6 : ([("signs" : Str), "marks", "first", "steps", "_numbers", "_leads"] : List Str).Nodup := by decide +kernel
theorem pf1 (v0 : V) : putF ("signs" : Str) v0 ([] : List (Str × V)) = ([("signs", v0)] : List (Str × V)) := rfl
theorem pf2 (v0 v1 : V) : putF ("marks" : Str) v1 ([("signs", v0)] : List (Str × V)) = ([("signs", v0), ("marks", v1)] : List (Str × V)) := putF_new fun p hp => by
  simp at hp; rcases hp with rfl; dsimp only; decide +kernel
theorem pf3 (v0 v1 v2 : V) : putF ("first" : Str) v2 ([("signs", v0), ("marks", v1)] : List (Str × V)) = ([("signs", v0), ("marks", v1), ("first", v2)] : List (Str × V)) := putF_new fun p hp => by
  simp at hp; rcases hp with rfl | rfl <;> (dsimp only; decide +kernel)
theorem pf4 (v0 v1 v2 v3 : V) : putF ("steps" : Str) v3 ([("signs", v0), ("marks", v1), ("first", v2)] : List (Str × V)) = ([("signs", v0), ("marks", v1), ("first", v2), ("steps", v3)] : List (Str × V)) := putF_new fun p hp => by
  simp at hp; rcases hp with rfl | rfl | rfl <;> (dsimp only; decide +kernel)
theorem pf5 (v0 v1 v2 v3 v4 : V) : putF ("_numbers" : Str) v4 ([("signs", v0), ("marks", v1), ("first", v2), ("steps", v3)] : List (Str × V)) = ([("signs", v0), ("marks", v1), ("first", v2), ("steps", v3), ("_numbers", v4)] : List (Str × V)) := putF_new fun p hp => by
  simp at hp; rcases hp with rfl | rfl | rfl | rfl <;> (dsimp only; decide +kernel)
theorem pf6 (v0 v1 v2 v3 v4 v5 : V) : putF ("_leads" : Str) v5 ([("signs", v0), ("marks", v1), ("first", v2), ("steps", v3), ("_numbers", v4)] : List (Str × V)) = ([("signs", v0), ("marks", v1), ("first", v2), ("steps", v3), ("_numbers", v4), ("_leads", v5)] : List (Str × V)) := putF_new fun p hp => by
  simp at hp; rcases hp with rfl | rfl | rfl | rfl | rfl <;> (dsimp only; decide +kernel)
theorem pf7 (v0 v1 v2 v3 v4 v5 v6 : V) : putF ("_columns" : Str) v6 ([("signs", v0), ("marks", v1), ("first", v2), ("steps", v3), ("_numbers", v4), ("_leads", v5)] : List (Str × V)) = ([("signs", v0), ("marks", v1), ("first", v2), ("steps", v3), ("_numbers", v4), ("_leads", v5), ("_columns", v6)] : List (Str × V)) := putF_new fun p hp => by
  simp at hp; rcases hp with rfl | rfl | rfl | rfl | rfl | rfl <;> (dsimp only; decide +kernel)
theorem RdrAt.same {C : Addr} {H H' : Hp} {a : Addr} {sg : List Nat} {ms : List (List Nat)} {f : List Nat} {tg : List Nat → Nat → List Nat} {dx m st nu le : Addr} {sa la : List Nat → Addr} {t : List (Str × V)} (h : RdrAt C H a sg ms f tg dx m st nu le sa la t) (s : Same H H') : RdrAt C H' a sg ms f tg dx m st nu le sa la t :=
  ⟨s _ _ h.ha, s _ _ h.hm, s _ _ h.hst, fun x hx => s _ _ (h.hsa x hx), s _ _ h.hnu, s _ _ h.hle, fun x hx => s _ _ (h.hla x hx)⟩
theorem ColAt.same {H H' : Hp} {co : Addr} {sg : List Nat} {ms : List (List Nat)} {tg : List Nat → Nat → List Nat} {ca : Nat → Addr} (h : ColAt H co sg ms tg ca) (s : Same H H') : ColAt H' co sg ms tg ca := ⟨s _ _ h.hco, fun c hc => s _ _ (h.hca c hc)⟩
theorem Rdr.same {C : Addr} {H H' : Hp} {a : Addr} {sg : List Nat} {ms : List (List Nat)} {f : List Nat} {tg : List Nat → Nat → List Nat} (r : Rdr C H a sg ms f tg) (s : Same H H') : Rdr C H' a sg ms f tg :=
  let ⟨dx, m, st, nu, le, sa, la, co, ca, h, hc⟩ := r; ⟨dx, m, st, nu, le, sa, la, co, ca, h.same s, hc.same s⟩
theorem Rdr0.same {C : Addr} {H H' : Hp} {a : Addr} {sg : List Nat} {ms : List (List Nat)} {f : List Nat} {tg : List Nat → Nat → List Nat} (r : Rdr0 C H a sg ms f tg) (s : Same H H') : Rdr0 C H' a sg ms f tg :=
  let ⟨dx, m, st, nu, le, sa, la, t, ht, h⟩ := r; ⟨dx, m, st, nu, le, sa, la, t, ht, h.same s⟩
structure Good (sg : List Nat) (ms : List (List Nat)) (f : List Nat) (tg : List Nat → Nat → List Nat) : Prop where
  hsg : Sg sg
  hnd : ms.Nodup
  h1 : 1 ≤ ms.length
  h8 : ms.length ≤ 8
  hnm : ∀ m ∈ ms, Name m
  hf : f ∈ ms
  htg : ∀ m ∈ ms, ∀ c ∈ sg, tg m c ∈ ms
theorem zip_self_map {α β γ : Type} (g : α → β) (f : α → γ) : ∀ l : List α, ((l.zip (l.map f)).map fun p => (g p.1, p.2)) = l.map fun a => (g a, f a)
  | [] => rfl
  | a :: l => by
    have := zip_self_map g f l
    simp only [List.map_cons, List.zip_cons_cons] at this ⊢
    rw [this]
theorem la_dict {sg : List Nat} (hn : sg.Nodup) (t : Nat → List Nat) : mergeK [] ((sg.zip (txs (sg.map t))).map fun p => (tk [p.1], p.2)) = laK sg t := by
  have e : txs (sg.map t) = sg.map fun c => V.str (S (t c)) := by unfold txs; rw [List.map_map]; rfl
  rw [e, zip_self_map (fun c => tk [c]), merge_nil (nodup_keys (key := fun c => tk [c]) (fun a b h => (List.cons.inj (tk_inj h)).1) hn)]
  rfl
theorem getD_of {ms : List (List Nat)} {i : Nat} {m : List Nat} (h : ms[i]? = some m) : ms.getD i [] = m := by rw [List.getD_eq_getElem?_getD, h]; rfl
theorem key_inj {ms : List (List Nat)} (nd : ms.Nodup) : ∀ i j, i < ms.length → j < i → tk (ms.getD j []) ≠ tk (ms.getD i []) := fun i j hi hj h => by
  have e := tk_inj h
  have hj2 : j < ms.length := by omega
  rw [List.getD_eq_getElem?_getD, List.getD_eq_getElem?_getD, List.getElem?_eq_getElem hi, List.getElem?_eq_getElem hj2] at e
  have e1 := nd.idxOf_getElem i hi
  have e2 := nd.idxOf_getElem j hj2
  rw [show ms[j] = ms[i] from e, e1] at e2
  omega
end
section
variable {C : Addr} {H : Hp} {a : Addr} {sg : List Nat} {ms : List (List Nat)} {f : List Nat} {tg : List Nat → Nat → List Nat} {dx m st nu le : Addr} {sa la : List Nat → Addr} {t : List (Str × V)}
theorem rl_signs : (rdF sg m f st nu le t).lookup ("signs" : Str) = some (.str (S sg)) := by rfl
theorem rl_marks : (rdF sg m f st nu le t).lookup ("marks" : Str) = some (.ref m) := by rfl
theorem rl_first : (rdF sg m f st nu le t).lookup ("first" : Str) = some (.str (S f)) := by rfl
theorem rl_steps : (rdF sg m f st nu le t).lookup ("steps" : Str) = some (.ref st) := by rfl
theorem rl_numbers : (rdF sg m f st nu le t).lookup ("_numbers" : Str) = some (.ref nu) := by rfl
theorem rl_leads : (rdF sg m f st nu le t).lookup ("_leads" : Str) = some (.ref le) := by rfl
theorem RdrAt.mark (r : RdrAt C H a sg ms f tg dx m st nu le sa la t) {x : List Nat} (h : x ∈ ms) : DGet H le (.str (S x)) (some (.ref (la x))) := .inl ⟨_, tk x, .inl r.hle, rfl, (valV_map' (key := tk) (f := fun m => V.ref (la m)) (fun _ _ => tk_inj) h).symm⟩
theorem RdrAt.at_ (r : RdrAt C H a sg ms f tg dx m st nu le sa la t) {x : List Nat} (h : x ∈ ms) {c : Nat} (hc : c ∈ sg) : DGet H (la x) (.str (S [c])) (some (.str (S (tg x c)))) :=
  .inl ⟨_, tk [c], .inl (r.hla x h), rfl, (valV_map' (key := fun c => tk [c]) (f := fun c => V.str (S (tg x c))) (fun _ _ e => (List.cons.inj (tk_inj e)).1) hc).symm⟩
theorem numK_eq (ms : List (List Nat)) (nd : ms.Nodup) : numK ms = ms.map fun x => (tk x, V.int (ms.idxOf x : Nat)) := by
  unfold numK
  symm
  refine list_of (f := fun i => (tk (ms.getD i []), V.int (i : Nat))) (by rw [List.length_map]) fun j y hy => ?_
  rw [List.getElem?_map] at hy
  cases q : ms[j]? with
  | none => rw [q] at hy; cases hy
  | some x =>
    rw [q] at hy; cases hy
    obtain ⟨h1, h2⟩ := List.getElem?_eq_some_iff.mp q
    have : ms.idxOf x = j := by rw [← h2]; exact nd.idxOf_getElem j h1
    rw [getD_of q]
    show (tk x, V.int (ms.idxOf x : Nat)) = _
    rw [this]
theorem RdrAt.num (r : RdrAt C H a sg ms f tg dx m st nu le sa la t) (nd : ms.Nodup) {x : List Nat} (h : x ∈ ms) : DGet H nu (.str (S x)) (some (.int (ms.idxOf x : Nat))) := .inl ⟨_, tk x, .inl r.hnu, rfl, by
  rw [numK_eq ms nd]; exact (valV_map' (key := tk) (f := fun x => V.int (ms.idxOf x : Nat)) (fun _ _ => tk_inj) h).symm⟩
end
theorem rdr_no {sg : List Nat} {m : Addr} {f : List Nat} {st nu le : Addr} {t : List (Str × V)} {n : Str} (ht : TailOk t) (h : (n == ("signs" : Str)) = false ∧ (n == ("marks" : Str)) = false ∧ (n == ("first" : Str)) = false ∧ (n == ("steps" : Str)) = false ∧ (n == ("_numbers" : Str)) = false ∧ (n == ("_leads" : Str)) = false ∧ (n == ("_columns" : Str)) = false) : (rdF sg m f st nu le t).lookup n = none := by
  unfold rdF
  rw [List.lookup_cons, h.1, List.lookup_cons, h.2.1, List.lookup_cons, h.2.2.1, List.lookup_cons, h.2.2.2.1, List.lookup_cons, h.2.2.2.2.1, List.lookup_cons, h.2.2.2.2.2.1]
  rcases ht with rfl | ⟨co, rfl⟩
  · rfl
  · rw [List.lookup_cons, h.2.2.2.2.2.2]; rfl
section
variable {P : Program} {w : World} {K : PySem.W.Frag} {mg : Str → Option Value} {base : Heap}
abbrev s_m_num : Stmt := inClass (top 19) 4
abbrev n_m_num : List Str := ["self", "mark"]
theorem sc_m_num : FnScope n_m_num ["self", "mark"] (fnScope s_m_num) := fnScope_by (by decide +kernel)
def spMNum (C : Addr) : Sp := fun vs H Q _ => ∃ (a : Addr) (sg : List Nat) (ms : List (List Nat)) (f : List Nat) (tg : List Nat → Nat → List Nat) (x : List Nat), vs = [.ref a, .str (S x)] ∧ Rdr0 C H a sg ms f tg ∧ ms.Nodup ∧ x ∈ ms ∧ Q (.int (ms.idxOf x : Nat)) H
theorem ok_mnum {C : Addr} (T : BT mg) (CH : CR K C) {f : Addr} {fd : FuncData} (me : Meth K C "number_of" f) (F : C8.Fun K "number_of" "Reader.number_of" s_m_num f fd) (b : Binds K fd ["self", "mark"] []) : Met P w K mg base 1 C "number_of" (spMNum C) [] := by
  refine met0 CH.cl me F b sc_m_num (fun vs H Q E h => ?_) (fun cdv A outer s H vs Q E hr h => ?_)
  · obtain ⟨a, sg, ms, f, tg, x, rfl, _⟩ := h; rfl
  · obtain ⟨a, sg, ms, f, tg, x, rfl, ⟨dx, m, st, nu, le, sa, la, t, ht, r⟩, hnd, hx, k⟩ := h
    refine ⟨_, (pss_one (ps_ret (pe_dget (hu_of hr) (fldK K (pv 0) rfl) (pv 1) (fun _ _ => rfl)))
      ), ?_⟩
    refine ⟨_, rfl, a, C, dx, _, _, rfl, r.ha, CH.cl, CH.nN, rl_numbers, ?_⟩
    exact ⟨_, rfl, _, _, rfl, r.num hnd hx, k⟩
abbrev s_table : Stmt := top 22
abbrev n_table : List Str := ["reader", "targets", "mark"]
theorem sc_table : FnScope n_table ["reader"] (fnScope s_table) := fnScope_by (by decide +kernel)
abbrev ncs_table : Scope := relS (outS (ofRet ((fnBody s_table).getD 0 (.Pass ⟨0, 0, 0, 0⟩)))) (fnScope s_table)
def tabI (sg : List Nat) (ms : List (List Nat)) (tg : List Nat → Nat → List Nat) (x : List Nat) : List V := sg.map fun c => V.int (ms.idxOf (tg x c) : Nat)
def spTable (C : Addr) : Sp := fun vs H Q _ => ∃ (a : Addr) (sg : List Nat) (ms : List (List Nat)) (f : List Nat) (tg : List Nat → Nat → List Nat), vs = [.ref a] ∧ Rdr0 C H a sg ms f tg ∧ Good sg ms f tg ∧
  ∀ (p : Addr) (ra : List Nat → Addr) (H' : Hp), Same H H' → H p = none → H' p = some (.lst (ms.map fun x => .ref (ra x))) → (∀ x ∈ ms, H' (ra x) = some (.lst (tabI sg ms tg x))) → Q (.ref p) H'
theorem ok_table {C : Addr} (T : BT mg) (CH : CR K C) (c_m_num : Met P w K mg base 1 C "number_of" (spMNum C) []) {f : Addr} {fd : FuncData} (F : Def K mg "table_of" s_table f fd) (b : Binds K fd ["reader"] []) : Cal P w K mg base 2 "table_of" (spTable C) [] := by
  refine cal0 F b .nil sc_table (fun vs H Q E h => ?_) (fun cdv A outer s H vs Q E hr h => ?_)
  · obtain ⟨a, sg, ms, f, tg, rfl, _⟩ := h; rfl
  · obtain ⟨a, sg, ms, f, tg, rfl, hrd, hgd, k⟩ := h
    obtain ⟨dx, m, st, nu, le, sa, la, t, ht, r⟩ := id hrd
    have h8 := hgd.h8
    refine ⟨_, (pss_one (ps_ret (pe_lc (own := [("targets", 1)]) rfl sc_table.nd (pi_tup (fldK K (pv 0) rfl)) (blkOk_by (N := n_table) (sc := fnScope s_table) (by decide +kernel)) (fun _ _ _ _ _ => (pg_name (i := 1) sc_table.nd rfl (.inl rfl))) (fun _ _ _ _ _ => pts_nil) (fun _ _ _ _ _ => (pe_lc (own := [("mark", 2)]) rfl sc_table.nd (pi_tupK K (pv 1)) (blkOk_by (N := n_table) (sc := ncs_table) (by decide +kernel)) (fun _ _ _ _ _ => (pg_name (i := 2) sc_table.nd rfl (.inl rfl))) (fun _ _ _ _ _ => pts_nil) (fun _ _ _ _ _ => (pe_mt c_m_num hr (by decide) (pv 0) (pa_cons (pv 2) pa_nil)))))))
      ), ?_⟩
    refine ⟨_, rfl, a, C, dx, _, _, rfl, r.ha, CH.cl, CH.nT, rl_steps, ?_⟩
    refine ⟨st, rfl, ⟨_, SqT.of r.hst⟩, fun D hD => ?_⟩
    refine lc_keepH keep_same (walk_tup (K := K) (a := st) (xs := ms.map fun x => V.ref (sa x))) hD (by rw [List.length_map]; exact small1000 (by omega)) (fun j y H => ∃ t, y = .ref t ∧ t ≠ D ∧ ∀ mm, ms[j]? = some mm → H t = some (.lst (tabI sg ms tg mm))) (fun H r1 => SqT.of (r1 _ _ r.hst))
      (fun _ _ _ _ _ r1 ⟨t, e, n, h⟩ => ⟨t, e, n, fun mm hm => r1 _ _ (h mm hm)⟩) (fun _ _ _ _ _ _ _ ⟨t, e, n, h⟩ => ⟨t, e, n, fun mm hm => by rw [upd_ne n]; exact h mm hm⟩) (fun i x H2 H2' acc R hi r2 hDa hy hR => ?_) (fun ys H2 hly hg r2 hDs => ?_)
    · obtain ⟨rfl, e⟩ := hy
      rw [List.getElem?_map] at e
      cases em : ms[i]? with
      | none => rw [em] at e; cases e
      | some mm =>
        rw [em] at e; cases e
        have hmem := List.mem_of_getElem? em
        have hsm := r2 _ _ (r.hsa mm hmem)
        refine ⟨rfl, ?_⟩
        refine ⟨_, rfl, sa mm, rfl, ⟨_, SqT.of hsm⟩, fun D2 hD2 => lc_keep keep_same (walk_tup (K := K) (a := sa mm) (xs := txs (sg.map (tg mm)))) hD2 (by rw [txs_len, List.length_map]; exact small1000 (by have := hgd.hsg.2.2.1; omega)) (fun j y => ∀ c, sg[j]? = some c → y = .int (ms.idxOf (tg mm c) : Nat)) (fun H3 r3 => SqT.of (r3 _ _ hsm)) (fun j z H3 H4 R2 hj r3 hy hR2 => ?_) (fun zs H3 hlz hgz r3 hDz => ?_)⟩
        · obtain ⟨rfl, e⟩ := hy
          obtain ⟨l, hl, rfl⟩ := txs_get e
          rw [List.getElem?_map] at hl
          cases ec : sg[j]? with
          | none => rw [ec] at hl; cases hl
          | some c =>
            rw [ec] at hl
            obtain rfl : tg mm c = l := Option.some.inj hl
            refine ⟨rfl, ?_⟩
            refine ⟨_, rfl, a, dx, _, rfl, (r2.trans r3) _ _ r.ha, rdr_no ht (by decide +kernel), _, rfl, ?_⟩
            exact ⟨a, sg, ms, f, tg, tg mm c, rfl, hrd.same (r2.trans r3), hgd.hnd, hgd.htg mm hmem c (List.mem_of_getElem? ec), hR2 _ _ (Same.refl _) fun c' h => by rw [Option.some.inj (ec.symm.trans h)]⟩
        · have ez : zs = tabI sg ms tg mm := by
            refine list_map (hlz.trans (by rw [txs_len, List.length_map])) fun j y c e1 e2 => hgz j y e1 c e2
          subst ez
          have nD : D2 ≠ D := fun e => by rw [e, hDa] at hD2; cases hD2
          exact hR _ _ r3 ⟨D2, rfl, nD, fun m2 h2 => by rw [em] at h2; cases h2; exact hDz⟩
    rw [List.length_map] at hly
    obtain ⟨ra, hra⟩ := fun_of (γ := Addr) hgd.hnd (P := fun j mm t => ys[j]? = some (V.ref t) ∧ H2 t = some (.lst (tabI sg ms tg mm))) fun j mm hj => by
      have hjl : j < ys.length := by rw [hly]; exact (List.getElem?_eq_some_iff.mp hj).1
      obtain ⟨t, e, _, h⟩ := hg j _ (List.getElem?_eq_getElem hjl)
      exact ⟨t, by rw [List.getElem?_eq_getElem hjl, e], h mm hj⟩
    have eys : ys = ms.map fun x => V.ref (ra x) := list_map hly fun j y x e1 e2 => by have := (hra j x e2).1; rw [e1] at this; exact Option.some.inj this
    subst eys
    exact k D ra H2 r2 hD hDs fun x hx => by obtain ⟨j, hj⟩ := List.getElem?_of_mem hx; exact (hra j x hj).2
abbrev s_cols : Stmt := top 23
abbrev n_cols : List Str := ["signs", "table", "at", "sign", "things"]
theorem sc_cols : FnScope n_cols ["signs", "table"] (fnScope s_cols) := fnScope_by (by decide +kernel)
abbrev ncs_cols : Scope := relS (outD (ofRet ((fnBody s_cols).getD 0 (.Pass ⟨0, 0, 0, 0⟩)))) (fnScope s_cols)
def spCols : Sp := fun vs H Q _ => ∃ (p : Addr) (sg : List Nat) (ms : List (List Nat)) (tg : List Nat → Nat → List Nat) (ra : List Nat → Addr), vs = [.str (S sg), .ref p] ∧ H p = some (.lst (ms.map fun x => .ref (ra x))) ∧ (∀ x ∈ ms, H (ra x) = some (.lst (tabI sg ms tg x))) ∧ ms.length ≤ 60 ∧ sg.length ≤ 3 ∧ sg.Nodup ∧
  ∀ (d : Addr) (ca : Nat → Addr) (H' : Hp), Same H H' → H d = none → ColAt H' d sg ms tg ca → Q (.ref d) H'
theorem ok_cols (T : BT mg) {f : Addr} {fd : FuncData} (F : Def K mg "columns_of" s_cols f fd) (b : Binds K fd ["signs", "table"] []) : Cal P w K mg base 1 "columns_of" spCols [] := by
  refine cal0 F b .nil sc_cols (fun vs H Q E h => ?_) (fun cdv A outer s H vs Q E hr h => ?_)
  · obtain ⟨p, sg, ms, tg, ra, rfl, _⟩ := h; rfl
  · obtain ⟨p, sg, ms, tg, ra, rfl, hp, hra, hm, hs3, hnd, k⟩ := h
    refine ⟨_, (pss_one (ps_ret (pe_dc (own := [("at", 2), ("sign", 3)]) rfl sc_cols.nd (pi_enumX (by rfl) T.m_enumerate (pa_cons (pv 0) pa_nil)) (blkOk_by (N := n_cols) (sc := fnScope s_cols) (by decide +kernel)) (fun _ _ _ _ _ => (tupK K 2 (pgs_cons (pg_name (i := 2) sc_cols.nd rfl (.inr rfl)) (pgs_cons (pg_name (i := 3) sc_cols.nd rfl (.inl rfl)) pgs_nil)))) (fun _ _ _ _ _ => pts_nil) (fun _ _ _ _ _ => (pv 3)) (fun _ _ _ _ _ => (pe_callTy (tupleK K) (by rfl) T.m_tuple PyProof.Rows.boot_tuple (pa_cons (pe_lc (own := [("things", 4)]) rfl sc_cols.nd (pi_listK K (pv 1)) (blkOk_by (N := n_cols) (sc := ncs_cols) (by decide +kernel)) (fun _ _ _ _ _ => (pg_name (i := 4) sc_cols.nd rfl (.inl rfl))) (fun _ _ _ _ _ => pts_nil) (fun _ _ _ _ _ => (pe_ix (ixl K) (pv 4) (pv 2) (fun _ _ => rfl)))) pa_nil)))))
      ), ?_⟩
    have hinj : ∀ i j, i < sg.length → j < i → tk [sg.getD j 0] ≠ tk [sg.getD i 0] := fun i j hi hj h => by
      have e := (List.cons.inj (tk_inj h)).1
      have hj2 : j < sg.length := by omega
      rw [List.getD_eq_getElem?_getD, List.getD_eq_getElem?_getD, List.getElem?_eq_getElem hi, List.getElem?_eq_getElem hj2] at e
      have e1 := hnd.idxOf_getElem i hi
      have e2 := hnd.idxOf_getElem j hj2
      rw [show sg[j] = sg[i] from e, e1] at e2
      omega
    have hget : ∀ {i c : Nat}, sg[i]? = some c → sg.getD i 0 = c := fun h => by rw [List.getD_eq_getElem?_getD, h]; rfl
    refine ⟨_, rfl, V.str (S sg), .txt (S sg), rfl, rfl, trivial, fun D hD => ?_⟩
    refine dc_keep keep_same (walk_enumX (K := K) (S := .txt (S sg)) (xs := sg.map fun c => V.str (S [c]))) hD (by rw [List.length_map]; exact small1000 (by omega)) (fun i => tk [sg.getD i 0]) (fun j y H => ∃ t, y = .ref t ∧ ∀ c, sg[j]? = some c → H t = some (.tup (colI ms tg c))) (fun H r => rfl) (fun i j hi hj => hinj i j (by rw [List.length_map] at hi; exact hi) hj)
      (fun _ _ _ _ _ r ⟨t, e, h⟩ => ⟨t, e, fun c hc => r _ _ (h c hc)⟩) (fun _ _ _ _ _ _ hDa ⟨t, e, h⟩ => ⟨t, e, fun c hc => by rw [upd_ne (ne_of (h c hc) hDa (by intro h; cases h))]; exact h c hc⟩) (fun i x H2 H3 acc R hi r hDa hy hR => ?_) (fun ys H2 hly hg r2 hDs => ?_)
    · obtain ⟨t, x1, x2, rfl, ht, rfl, e1, e2⟩ := hy
      obtain rfl : V.int (i : Nat) = x1 := Option.some.inj e1
      have e2 : (sg.map fun c => V.str (S [c]))[i]? = some x2 := e2
      rw [List.getElem?_map] at e2
      cases ec : sg[i]? with
      | none => rw [ec] at e2; cases e2
      | some c =>
        rw [ec] at e2
        obtain rfl : V.str (S [c]) = x2 := Option.some.inj e2
        have s3 : Same H2 (upd H2 t (.tup [.int (i : Nat), .str (S [c])])) := sm_new ht
        have ht3 : (upd H2 t (.tup [.int (i : Nat), .str (S [c])])) t = some (.tup [.int (i : Nat), .str (S [c])]) := upd_same
        generalize upd H2 t (.tup [.int (i : Nat), .str (S [c])]) = H3 at s3 ht3 ⊢
        refine ⟨t, _, rfl, .inl (.inl ht3), rfl, _, _, rfl, _, _, rfl, rfl, rfl, ?_⟩
        refine ⟨_, rfl, ?_⟩
        have hp3 := (r.trans s3) _ _ hp
        have hic : i < sg.length := (List.getElem?_eq_some_iff.mp ec).1
        refine ⟨_, rfl, p, rfl, ⟨_, SqL.of hp3⟩, fun D2 hD2 => lc_keep keep_same (walk_list (K := K) (a := p) (xs := ms.map fun x => V.ref (ra x))) hD2 (by rw [List.length_map]; exact small1000 (by omega)) (fun j y => ∀ mm, ms[j]? = some mm → y = .int (ms.idxOf (tg mm c) : Nat)) (fun H4 r4 => SqL.of (r4 _ _ hp3)) (fun j z H4 H5 R2 hj r4 hy hR2 => ?_) (fun zs H4 hlz hgz r4 hDz => ?_)⟩
        · obtain ⟨rfl, e⟩ := hy
          rw [List.getElem?_map] at e
          cases em : ms[j]? with
          | none => rw [em] at e; cases e
          | some mm =>
            rw [em] at e; cases e
            have hrow := ((r.trans s3).trans r4) _ _ (hra mm (List.mem_of_getElem? em))
            refine ⟨rfl, ?_⟩
            refine ⟨_, rfl, _, rfl, ra mm, tabI sg ms tg mm, (i : Nat), .int (ms.idxOf (tg mm c) : Nat), rfl, rfl, SqL.of hrow, at_of rfl (by unfold tabI; rw [List.getElem?_map, ec]; rfl), ?_⟩
            exact hR2 _ _ (Same.refl _) fun m2 h2 => by rw [Option.some.inj (em.symm.trans h2)]
        · have ez : zs = colI ms tg c := by
            unfold colI
            exact list_map (hlz.trans (by rw [List.length_map])) fun j y mm e1 e2 => hgz j y e1 mm e2
          subst ez
          refine nil1 ⟨D2, _, rfl, .inl ⟨SqL.of hDz, fun st hst => ?_⟩⟩
          rw [hget ec] at hR
          exact hR _ _ ((s3.trans r4).trans (sm_new hst)) ⟨st, rfl, fun c' hc' => by rw [Option.some.inj (hc'.symm.trans ec)]; exact upd_same⟩
    · rw [List.length_map] at hly hDs
      obtain ⟨ca, hca⟩ := fun_of (γ := Addr) hnd (P := fun j c t => ys[j]? = some (V.ref t) ∧ H2 t = some (.tup (colI ms tg c))) fun j c hj => by
        have hjl : j < ys.length := by rw [hly]; exact (List.getElem?_eq_some_iff.mp hj).1
        obtain ⟨t, e, h⟩ := hg j _ (List.getElem?_eq_getElem hjl)
        exact ⟨t, by rw [List.getElem?_eq_getElem hjl, e], h c hj⟩
      have eys : ys = sg.map fun c => V.ref (ca c) := list_map hly fun j y c e1 e2 => by have := (hca j c e2).1; rw [e1] at this; exact Option.some.inj this
      subst eys
      refine k D ca H2 r2 hD ⟨?_, fun c hc => by obtain ⟨j, hj⟩ := List.getElem?_of_mem hc; exact (hca j c hj).2⟩
      rw [hDs]
      have e : (sg.map fun c => V.ref (ca c)) = (List.range sg.length).map fun i => V.ref (ca (sg.getD i 0)) := by
        refine (list_of (by rw [List.length_map]) fun j y hy => ?_)
        rw [List.getElem?_map] at hy
        cases q : sg[j]? with
        | none => rw [q] at hy; cases hy
        | some x => rw [q] at hy; cases hy; rw [hget q]
      rw [e, zip_self_map (fun i => tk [sg.getD i 0])]
      congr 2
      symm
      unfold coK
      refine list_of (f := fun i => (tk [sg.getD i 0], V.ref (ca (sg.getD i 0)))) (by rw [List.length_map]) fun j y hy => ?_
      rw [List.getElem?_map] at hy
      cases q : sg[j]? with
      | none => rw [q] at hy; cases hy
      | some x => rw [q] at hy; cases hy; rw [hget q]
end
end Toy
set_option maxHeartbeats 4000000
namespace Toy
open PySem L2 C8 SX LX
local macro_rules | `(tactic| walk_at "c") => `(tactic| refine And.intro (by first | (show (0 : Int) < _; omega) | exact Or.inr ⟨by decide, by decide⟩ | exact Or.inl ⟨by decide, by decide⟩ | (exact ⟨by omega, by omega⟩)) ?_)
local macro_rules | `(tactic| walk_at "s1") => `(tactic| first | refine ⟨_, rfl, ?_⟩ | refine ⟨_, _, rfl, rfl, ?_⟩ | refine .inl ⟨_, rfl, ?_⟩ | walk_at "c")
local macro_rules | `(tactic| walk_at "s") => `(tactic| repeat (walk_at "s1"))
section
variable {P : Program} {w : World} {K : PySem.W.Frag} {mg : Str → Option Value} {base : Heap}
abbrev s_init : Stmt := inClass (top 19) 0
abbrev n_init : List Str := ["self", "signs", "marks", "first", "steps", "at", "mark", "targets"]
theorem sc_init : FnScope n_init ["self", "signs", "marks", "first", "steps"] (fnScope s_init) := fnScope_by (by decide +kernel)
def spInit (C : Addr) : Sp := fun vs H Q _ => ∃ (a dx q p : Addr) (b c d : Bool) (sg : List Nat) (ms : List (List Nat)) (f : List Nat) (tg : List Nat → Nat → List Nat) (pa : List Nat → Addr), vs = [.ref a, .str (S sg), .ref q, .str (S f), .ref p] ∧ H a = some (.ins C dx []) ∧
  H q = some (seqB b (txs ms)) ∧ H p = some (seqB c (ms.map fun x => .ref (pa x))) ∧ (∀ x ∈ ms, H (pa x) = some (seqB d (txs (sg.map (tg x))))) ∧ Good sg ms f tg ∧
  ∀ H', (∀ b o, b ≠ a → H b = some o → H' b = some o) → Rdr C H' a sg ms f tg → Q .non H'
theorem ok_init {C : Addr} (T : BT mg) (CH : CR K C) (c_issigns : Cal P w K mg base 3 "is_signs" spIsSigns []) (c_ismarks : Cal P w K mg base 4 "_is_marks" spIsMarks []) (c_issteps : Cal P w K mg base 3 "_is_steps" spIsSteps []) (c_table : Cal P w K mg base 2 "table_of" (spTable C) []) (c_cols : Cal P w K mg base 1 "columns_of" spCols []) (M : Mk K C f) (hm : mg "Reader" = some (.ref C)) {fd : FuncData} (F : C8.Fun K "__init__" "Reader.__init__" s_init f fd) (b : Binds K fd ["self", "signs", "marks", "first", "steps"] []) : Mak P w K mg base 5 "Reader" C (spInit C) [] := by
  refine mak0 M hm F b .nil sc_init (fun vs H Q E h => ?_) (fun cdv A outer s H vs Q E hr h => ?_)
  · obtain ⟨a, dx, q, p, b, c, d, sg, ms, f, tg, pa, rfl, _⟩ := h; rfl
  · obtain ⟨a, dx, q, p, b, c, d, sg, ms, f, tg, pa, rfl, ha, hq, hp, hpa, hgd, k⟩ := h
    refine ⟨_, (pss_cons (ps_if (pt_not (pt_val (pe_c c_issigns hr (by first | decide | omega) (by rfl) (pa_cons (pv 1) pa_nil)))) 
        (pss_one ps_never
        )
       pss_nil)
      (pss_cons (ps_if (pt_not (pt_val (pe_c c_ismarks hr (by first | decide | omega) (by rfl) (pa_cons (pv 2) pa_nil)))) 
        (pss_one ps_never
        )
       pss_nil)
      (pss_cons (ps_if (pt_cmpR (notInK K) (pv 3) (pv 2) rfl) 
        (pss_one ps_never
        )
       pss_nil)
      (pss_cons (ps_if (pt_not (pt_val (pe_c c_issteps hr (by first | decide | omega) (by rfl) (pa_cons (pv 4) (pa_cons (pv 1) (pa_cons (pv 2) pa_nil)))))) 
        (pss_one ps_never
        )
       pss_nil)
      (pss_cons (ps_fld (pv 0) (pv 1) rfl)
      (pss_cons (ps_fld (pv 0) (pe_callTy (tupleK K) (by rfl) T.m_tuple PyProof.Rows.boot_tuple (pa_cons (pv 2) pa_nil)) rfl)
      (pss_cons (ps_fld (pv 0) (pv 3) rfl)
      (pss_cons (ps_fld (pv 0) (pe_callTy (tupleK K) (by rfl) T.m_tuple PyProof.Rows.boot_tuple (pa_cons (pe_lc (own := [("targets", 7)]) rfl sc_init.nd (pi_seq (pv 4)) (blkOk_by (N := n_init) (sc := fnScope s_init) (by decide +kernel)) (fun _ _ _ _ _ => (pg_name (i := 7) sc_init.nd rfl (.inl rfl))) (fun _ _ _ _ _ => pts_nil) (fun _ _ _ _ _ => (pe_callTy (tupleK K) (by rfl) T.m_tuple PyProof.Rows.boot_tuple (pa_cons (pv 7) pa_nil)))) pa_nil)) rfl)
      (pss_cons (ps_fld (pv 0) (pe_dc (own := [("at", 5), ("mark", 6)]) rfl sc_init.nd (pi_enumX (by rfl) T.m_enumerate (pa_cons (fldK K (pv 0) rfl) pa_nil)) (blkOk_by (N := n_init) (sc := fnScope s_init) (by decide +kernel)) (fun _ _ _ _ _ => (tupK K 2 (pgs_cons (pg_name (i := 5) sc_init.nd rfl (.inl rfl)) (pgs_cons (pg_name (i := 6) sc_init.nd rfl (.inl rfl)) pgs_nil)))) (fun _ _ _ _ _ => pts_nil) (fun _ _ _ _ _ => (pv 6)) (fun _ _ _ _ _ => (pv 5))) rfl)
      (pss_cons (ps_fld (pv 0) (pe_dc (own := [("mark", 6), ("targets", 7)]) rfl sc_init.nd (pi_zipX (by rfl) T.m_zip (pa_cons (fldK K (pv 0) rfl) (pa_cons (fldK K (pv 0) rfl) pa_nil))) (blkOk_by (N := n_init) (sc := fnScope s_init) (by decide +kernel)) (fun _ _ _ _ _ => (tupK K 2 (pgs_cons (pg_name (i := 6) sc_init.nd rfl (.inl rfl)) (pgs_cons (pg_name (i := 7) sc_init.nd rfl (.inl rfl)) pgs_nil)))) (fun _ _ _ _ _ => pts_nil) (fun _ _ _ _ _ => (pv 6)) (fun _ _ _ _ _ => (dictZipK K rfl (by rfl) T.m_dict (by rfl) T.m_zip (pa_cons (pv 1) (pa_cons (pv 7) pa_nil))))) rfl)
      (pss_one (ps_fld (pv 0) (pe_c c_cols hr (by first | decide | omega) (by rfl) (pa_cons (pv 1) (pa_cons (pe_c c_table hr (by first | decide | omega) (by rfl) (pa_cons (pv 0) pa_nil)) pa_nil))) rfl)
      ))))))))))), ?_⟩
    refine ⟨_, rfl, sg, rfl, hgd.hsg, fun H1 s1 => ?_⟩
    refine ⟨true, rfl, iteN rfl ?_⟩
    refine ⟨_, rfl, q, b, ms, rfl, s1 _ _ hq, hgd.h1, by have := hgd.h8; omega, hgd.hnd, hgd.hnm, fun H2 s2 => ?_⟩
    refine ⟨true, rfl, iteN rfl ?_⟩
    have s12 := s1.trans s2
    refine ⟨_, rfl, _, rfl, q, txs ms, rfl, (all_of hq s12).or, rfl, flat_txs _, _, rfl, ?_⟩
    refine iteN (by rw [inV_txs, decide_eq_true hgd.hf]; rfl) ?_
    have hpa2 : ∀ (i : Nat) (x : Addr) (ts : List (List Nat)), (ms.map pa)[i]? = some x → (ms.map fun m => sg.map (tg m))[i]? = some ts → H2 x = some (seqB d (txs ts)) ∧ ts.length = sg.length ∧ ∀ t ∈ ts, t ∈ ms := fun i x ts e1 e2 => by
      rw [List.getElem?_map] at e1 e2
      cases e : ms[i]? with
      | none => rw [e] at e1; cases e1
      | some m =>
        rw [e] at e1 e2
        cases e1; cases e2
        have hmm := List.mem_of_getElem? e
        exact ⟨s12 _ _ (hpa m hmm), by rw [List.length_map], fun t ht => let ⟨c, hc, e⟩ := List.mem_map.mp ht; e ▸ hgd.htg m hmm c hc⟩
    refine ⟨_, rfl, _, rfl, _, rfl, p, q, c, d, b, ms.map pa, ms.map fun m => sg.map (tg m), ms, sg, rfl, by rw [List.map_map]; exact s12 _ _ hp, s12 _ _ hq, hgd.hsg.2.2.1, by have := hgd.h8; omega, by rw [List.length_map], by rw [List.length_map, List.length_map], hpa2, fun H3 s3 => ?_⟩
    refine ⟨true, rfl, iteN rfl ?_⟩
    have s13 := s12.trans s3
    have ha3 := s13 _ _ ha
    refine ⟨_, rfl, _, rfl, a, C, dx, [], rfl, ha3, CH.cl, CH.nS, (by show 0 < 1000; decide), ?_⟩
    have nqa : q ≠ a := ne_of (s13 _ _ hq) ha3 (by cases b <;> (intro h; cases h))
    have npa : p ≠ a := ne_of (s13 _ _ hp) ha3 (by cases c <;> (intro h; cases h))
    generalize hH4 : upd H3 a (.ins C dx (putF ("signs" : Str) (.str (S sg)) [])) = H4
    have k4 : ∀ x o, x ≠ a → H3 x = some o → H4 x = some o := fun x o n e => by rw [← hH4, upd_ne n]; exact e
    have ha4 : H4 a = some (.ins C dx [("signs", .str (S sg))]) := by rw [← hH4, upd_same]; rfl
    clear hH4
    unfold tSeq
    dsimp only
    unfold sFld
    refine tCB_tup (i := 2) rfl (k4 _ _ nqa (s13 _ _ hq)) fun m H5 s5 hm5 hmq hmn => ?_
    have ha5 := s5 _ _ ha4
    refine ⟨_, rfl, a, C, dx, _, rfl, ha5, CH.cl, CH.nM, (by show 1 < 1000; decide), ?_⟩
    rw [pf2]
    have nma : m ≠ a := ne_of hm5 ha5 (by intro h; cases h)
    generalize hH6 : upd H5 a (.ins C dx [("signs", .str (S sg)), ("marks", .ref m)]) = H6
    have k6 : ∀ x o, x ≠ a → H3 x = some o → H6 x = some o := fun x o n e => by rw [← hH6, upd_ne n]; exact s5 _ _ (k4 _ _ n e)
    have hm6 : H6 m = some (.tup (txs ms)) := by rw [← hH6, upd_ne nma]; exact hm5
    have ha6 : H6 a = some (.ins C dx [("signs", .str (S sg)), ("marks", .ref m)]) := by rw [← hH6, upd_same]
    clear hmq hmn
    clear hH6 hm5 ha5 s5 k4 ha4 H5 H4
    refine ⟨_, rfl, _, rfl, a, C, dx, _, rfl, ha6, CH.cl, CH.nF, (by show 2 < 1000; decide), ?_⟩
    rw [pf3]
    generalize hH7 : upd H6 a (.ins C dx [("signs", .str (S sg)), ("marks", .ref m), ("first", .str (S f))]) = H7
    have k7 : ∀ x o, x ≠ a → H3 x = some o → H7 x = some o := fun x o n e => by rw [← hH7, upd_ne n]; exact k6 _ _ n e
    have hm7 : H7 m = some (.tup (txs ms)) := by rw [← hH7, upd_ne nma]; exact hm6
    have ha7 : H7 a = some (.ins C dx [("signs", .str (S sg)), ("marks", .ref m), ("first", .str (S f))]) := by rw [← hH7, upd_same]
    clear hH7 hm6 ha6 k6 H6
    have hp7 := k7 _ _ npa (s13 _ _ hp)
    have hpa7 : ∀ x ∈ ms, H7 (pa x) = some (seqB d (txs (sg.map (tg x)))) := fun x hx => k7 _ _ (ne_of (s13 _ _ (hpa x hx)) ha3 (by cases d <;> (intro h; cases h))) (s13 _ _ (hpa x hx))
    have hsgn : sg.Nodup := hgd.hsg.1.imp fun h => by omega
    have h8 := hgd.h8
    refine ⟨_, rfl, p, c, _, rfl, SqB.of hp7, fun D hD => lc_keepH keep_same (walk_seq (K := K) (b := c) (a := p) (xs := ms.map fun x => V.ref (pa x))) hD (by rw [List.length_map]; exact small1000 (by omega)) (fun j y H => ∃ t, y = .ref t ∧ ∀ mm, ms[j]? = some mm → H t = some (.tup (txs (sg.map (tg mm))))) (fun H r => SqB.of (r _ _ hp7))
      (fun _ _ _ _ _ r ⟨t, e, h⟩ => ⟨t, e, fun mm hm => r _ _ (h mm hm)⟩) (fun _ _ _ _ _ _ hDa ⟨t, e, h⟩ => ⟨t, e, fun mm hm => by rw [upd_ne (ne_of (h mm hm) hDa (by intro h; cases h))]; exact h mm hm⟩) (fun i x H8 H8' acc R hi r hDa hy hR => ?_) (fun ys H8 hly hg r8 hDs => ?_)⟩
    · obtain ⟨rfl, e⟩ := hy
      rw [List.getElem?_map] at e
      cases em : ms[i]? with
      | none => rw [em] at e; cases e
      | some mm =>
        rw [em] at e; cases e
        refine ⟨rfl, ?_⟩
        refine ⟨_, rfl, pa mm, _, rfl, tupA (Q := R) (r _ _ (hpa7 mm (List.mem_of_getElem? em))) fun l H9 s9 hl9 _ _ => hR _ _ s9 ⟨l, rfl, fun m2 h2 => by rw [em] at h2; cases h2; exact hl9⟩⟩
    rw [List.length_map] at hly
    obtain ⟨sa, hsa⟩ := fun_of (γ := Addr) hgd.hnd (P := fun j mm t => ys[j]? = some (V.ref t) ∧ H8 t = some (.tup (txs (sg.map (tg mm))))) fun j mm hj => by
      have hjl : j < ys.length := by rw [hly]; exact (List.getElem?_eq_some_iff.mp hj).1
      obtain ⟨t, e, h⟩ := hg j _ (List.getElem?_eq_getElem hjl)
      exact ⟨t, by rw [List.getElem?_eq_getElem hjl, e], h mm hj⟩
    have eys : ys = ms.map fun x => V.ref (sa x) := list_map hly fun j y x e1 e2 => by have := (hsa j x e2).1; rw [e1] at this; exact Option.some.inj this
    have hsa8 : ∀ x ∈ ms, H8 (sa x) = some (.tup (txs (sg.map (tg x)))) := fun x hx => by obtain ⟨j, hj⟩ := List.getElem?_of_mem hx; exact (hsa j x hj).2
    clear hsa
    subst eys
    refine nil1 ⟨D, _, rfl, .inl ⟨SqL.of hDs, fun st hst => ?_⟩⟩
    have ha8 := r8 _ _ ha7
    have nsta : st ≠ a := (ne_of_none ha8 hst).symm
    refine ⟨_, rfl, a, C, dx, _, rfl, (by rw [upd_ne nsta.symm]; exact ha8), CH.cl, CH.nT, (by show 3 < 1000; decide), ?_⟩
    rw [pf4]
    generalize hH9 : upd (upd H8 st (.tup (ms.map fun x => V.ref (sa x)))) a (.ins C dx [("signs", .str (S sg)), ("marks", .ref m), ("first", .str (S f)), ("steps", .ref st)]) = H9
    have k9 : ∀ x o, x ≠ a → H8 x = some o → H9 x = some o := fun x o n e => by rw [← hH9, upd_ne n, upd_ne (ne_of_none e hst)]; exact e
    have hm9 : H9 m = some (.tup (txs ms)) := k9 _ _ nma (r8 _ _ hm7)
    have hst9 : H9 st = some (.tup (ms.map fun x => V.ref (sa x))) := by rw [← hH9, upd_ne nsta, upd_same]
    have hsa9 : ∀ x ∈ ms, H9 (sa x) = some (.tup (txs (sg.map (tg x)))) := fun x hx => k9 _ _ (ne_of (hsa8 x hx) ha8 (by intro h; cases h)) (hsa8 x hx)
    have ha9 : H9 a = some (.ins C dx [("signs", .str (S sg)), ("marks", .ref m), ("first", .str (S f)), ("steps", .ref st)]) := by rw [← hH9, upd_same]
    have kk9 : ∀ x o, x ≠ a → H3 x = some o → H9 x = some o := fun x o n e => k9 _ _ n (r8 _ _ (k7 _ _ n e))
    clear hH9 k9 hsa8 ha8 hst hDs hly hg r8 hD hpa7 hp7 k7 hm7 ha7
    refine ⟨_, rfl, a, C, dx, _, _, rfl, ha9, CH.cl, CH.nM, (show _ = some (V.ref m) by rfl), ?_⟩
    refine nil1 ⟨.ref m, .tup m, rfl, rfl, ⟨_, SqT.of hm9⟩, fun D2 hD2 => ?_⟩
    refine dc_keep keep_same (walk_enumX (K := K) (S := .tup m) (xs := txs ms)) hD2 (by rw [txs_len]; exact small1000 (by omega)) (fun i => tk (ms.getD i [])) (fun j y H => y = .int (j : Nat)) (fun H r => SqT.of (r _ _ hm9)) (fun i j hi hj => key_inj hgd.hnd i j (by rw [txs_len] at hi; exact hi) hj)
      (fun _ _ _ _ _ _ h => h) (fun _ _ _ _ _ _ _ h => h) (fun i x H10 H11 acc R hi r hDa hy hR => ?_) (fun ys H10 hly hg r10 hDs => ?_)
    · obtain ⟨t, x1, x2, rfl, ht, rfl, e1, e2⟩ := hy
      obtain rfl : V.int (i : Nat) = x1 := Option.some.inj e1
      obtain ⟨mm, hmm, rfl⟩ := txs_get (show (txs ms)[i]? = some x2 from e2)
      refine ⟨t, _, rfl, .inl (.inl upd_same), rfl, _, _, rfl, _, _, rfl, rfl, rfl, ?_⟩
      refine ⟨_, rfl, _, rfl, ?_⟩
      rw [getD_of hmm] at hR
      exact hR _ _ (sm_new ht) rfl
    have eys : ys = (List.range ms.length).map fun j => V.int (j : Nat) := list_of (by rw [hly, txs_len]) fun j y e => hg j y e
    subst eys
    have hnu10 : H10 D2 = some (.dK (numK ms)) := by
      rw [hDs, txs_len, zip_self_map (fun i => tk (ms.getD i []))]; rfl
    clear hDs hg hly
    have ha10 := r10 _ _ ha9
    have nD2a : D2 ≠ a := ne_of hnu10 ha10 (by intro h; cases h)
    refine ⟨_, rfl, a, C, dx, _, rfl, ha10, CH.cl, CH.nN, (by show 4 < 1000; decide), ?_⟩
    rw [pf5]
    generalize hH11 : upd H10 a (.ins C dx [("signs", .str (S sg)), ("marks", .ref m), ("first", .str (S f)), ("steps", .ref st), ("_numbers", .ref D2)]) = H11
    have k11 : ∀ x o, x ≠ a → H10 x = some o → H11 x = some o := fun x o n e => by rw [← hH11, upd_ne n]; exact e
    have hm11 := k11 _ _ nma (r10 _ _ hm9)
    have hst11 := k11 _ _ nsta (r10 _ _ hst9)
    have hsa11 : ∀ x ∈ ms, H11 (sa x) = some (.tup (txs (sg.map (tg x)))) := fun x hx => k11 _ _ (ne_of (hsa9 x hx) ha9 (by intro h; cases h)) (r10 _ _ (hsa9 x hx))
    have hnu11 := k11 _ _ nD2a hnu10
    have ha11 : H11 a = some (.ins C dx [("signs", .str (S sg)), ("marks", .ref m), ("first", .str (S f)), ("steps", .ref st), ("_numbers", .ref D2)]) := by rw [← hH11, upd_same]
    have kk11 : ∀ x o, x ≠ a → H3 x = some o → H11 x = some o := fun x o n e => k11 _ _ n (r10 _ _ (kk9 _ _ n e))
    clear hH11 k11 hnu10 ha10 r10 hD2 hm9 hst9 hsa9 ha9 kk9
    refine ⟨_, rfl, a, C, dx, _, _, rfl, ha11, CH.cl, CH.nM, (show _ = some (V.ref m) by rfl), ?_⟩
    refine ⟨_, rfl, a, C, dx, _, _, rfl, ha11, CH.cl, CH.nT, (show _ = some (V.ref st) by rfl), ?_⟩
    refine nil1 ⟨.ref m, .ref st, .tup m, .tup st, rfl, rfl, rfl, ⟨_, SqT.of hm11⟩, ⟨_, SqT.of hst11⟩, fun D3 hD3 => ?_⟩
    refine dc_keep (n := min (txs ms).length (ms.map fun x => V.ref (sa x)).length) keep_same (walk_zipX (K := K) (S1 := .tup m) (S2 := .tup st) (xs := txs ms) (ys := ms.map fun x => V.ref (sa x))) hD3 (Nat.lt_of_le_of_lt (Nat.min_le_left _ _) (by rw [txs_len]; exact small1000 (by omega))) (fun i => tk (ms.getD i [])) (fun j y H => ∃ t, y = .ref t ∧ t ≠ D3 ∧ ∀ mm, ms[j]? = some mm → H t = some (.dK (laK sg (tg mm)))) (fun H r => ⟨SqT.of (r _ _ hm11), SqT.of (r _ _ hst11)⟩)
      (fun i j hi hj => key_inj hgd.hnd i j (by rw [txs_len] at hi; exact Nat.lt_of_lt_of_le hi (Nat.min_le_left _ _)) hj)
      (fun _ _ _ _ _ r ⟨t, e, n, h⟩ => ⟨t, e, n, fun mm hm => r _ _ (h mm hm)⟩) (fun _ _ _ _ _ _ _ ⟨t, e, n, h⟩ => ⟨t, e, n, fun mm hm => by rw [upd_ne n]; exact h mm hm⟩) (fun i x H12 H13 acc R hi r hDa hy hR => ?_) (fun ys H12 hly hg r12 hDs => ?_)
    · obtain ⟨t, x1, x2, rfl, ht, rfl, e1, e2⟩ := hy
      obtain ⟨mm, hmm, rfl⟩ := txs_get (show (txs ms)[i]? = some x1 from e1)
      have e2 : (ms.map fun x => V.ref (sa x))[i]? = some x2 := e2
      rw [List.getElem?_map, hmm] at e2
      obtain rfl : V.ref (sa mm) = x2 := Option.some.inj e2
      have hmem := List.mem_of_getElem? hmm
      refine ⟨t, _, rfl, .inl (.inl upd_same), rfl, _, _, rfl, _, _, rfl, rfl, rfl, ?_⟩
      refine ⟨_, rfl, _, rfl, _, rfl, sg, sa mm, txs (sg.map (tg mm)), rfl, SqT.of ((sm_new ht) _ _ (r _ _ (hsa11 mm hmem))), by rw [txs_len, List.length_map], by have := hgd.hsg.2.2.1; omega, fun d2 hd2 => ?_⟩
      rw [la_dict hsgn]
      have hne : d2 ≠ D3 := fun e => by rw [e, upd_ne (ne_of_none hDa ht)] at hd2; rw [hDa] at hd2; cases hd2
      rw [getD_of hmm] at hR
      exact hR _ _ (sm_put' (sm_new ht) hd2) ⟨d2, rfl, hne, fun m2 h2 => by rw [hmm] at h2; cases h2; exact upd_same⟩
    have hly2 : ys.length = ms.length := by rw [hly, txs_len, List.length_map, Nat.min_self]
    obtain ⟨la, hla⟩ := fun_of (γ := Addr) hgd.hnd (P := fun j mm t => ys[j]? = some (V.ref t) ∧ H12 t = some (.dK (laK sg (tg mm)))) fun j mm hj => by
      have hjl : j < ys.length := by rw [hly2]; exact (List.getElem?_eq_some_iff.mp hj).1
      obtain ⟨t, e, _, h⟩ := hg j _ (List.getElem?_eq_getElem hjl)
      exact ⟨t, by rw [List.getElem?_eq_getElem hjl, e], h mm hj⟩
    have eys : ys = ms.map fun x => V.ref (la x) := list_map hly2 fun j y x e1 e2 => by have := (hla j x e2).1; rw [e1] at this; exact Option.some.inj this
    have hla12 : ∀ x ∈ ms, H12 (la x) = some (.dK (laK sg (tg x))) := fun x hx => by obtain ⟨j, hj⟩ := List.getElem?_of_mem hx; exact (hla j x hj).2
    subst eys
    have hle12 : H12 D3 = some (.dK (leK ms la)) := by
      rw [hDs, txs_len, List.length_map, Nat.min_self]
      have e : (ms.map fun x => V.ref (la x)) = (List.range ms.length).map fun i => V.ref (la (ms.getD i [])) := by
        refine (list_of (by rw [List.length_map]) fun j y hy => ?_)
        rw [List.getElem?_map] at hy
        cases q : ms[j]? with
        | none => rw [q] at hy; cases hy
        | some x => rw [q] at hy; cases hy; rw [getD_of q]
      rw [e, zip_self_map (fun i => tk (ms.getD i []))]
      congr 2
      symm
      unfold leK
      refine list_of (f := fun i => (tk (ms.getD i []), V.ref (la (ms.getD i [])))) (by rw [List.length_map]) fun j y hy => ?_
      rw [List.getElem?_map] at hy
      cases q : ms[j]? with
      | none => rw [q] at hy; cases hy
      | some x => rw [q] at hy; cases hy; rw [getD_of q]
    have ha12 := r12 _ _ ha11
    refine ⟨_, rfl, a, C, dx, _, rfl, ha12, CH.cl, CH.nL, (by show 5 < 1000; decide), ?_⟩
    rw [pf6]
    have hR0 : RdrAt C (upd H12 a (.ins C dx (rdF sg m f st D2 D3 []))) a sg ms f tg dx m st D2 D3 sa la [] := by
      refine ⟨upd_same, ?_, ?_, fun x hx => ?_, ?_, ?_, fun x hx => ?_⟩
      · rw [upd_ne nma]; exact r12 _ _ hm11
      · rw [upd_ne nsta]; exact r12 _ _ hst11
      · rw [upd_ne (ne_of (hsa11 x hx) ha11 (by intro h; cases h))]; exact r12 _ _ (hsa11 x hx)
      · rw [upd_ne nD2a]; exact r12 _ _ hnu11
      · rw [upd_ne (ne_of hle12 ha12 (by intro h; cases h))]; exact hle12
      · rw [upd_ne (ne_of (hla12 x hx) ha12 (by intro h; cases h))]; exact hla12 x hx
    have kk13 : ∀ x o, x ≠ a → H3 x = some o → (upd H12 a (.ins C dx (rdF sg m f st D2 D3 []))) x = some o := fun x o n e => by rw [upd_ne n]; exact r12 _ _ (kk11 _ _ n e)
    show (fun H13 => _) (upd H12 a (.ins C dx (rdF sg m f st D2 D3 [])))
    generalize upd H12 a (.ins C dx (rdF sg m f st D2 D3 [])) = H13 at hR0 kk13 ⊢
    refine ⟨_, rfl, _, rfl, a, sg, ms, f, tg, rfl, ⟨dx, m, st, D2, D3, sa, la, [], .inl rfl, hR0⟩, hgd, fun tb ra H14 s14 n14 h14 hra => ?_⟩
    refine ⟨tb, sg, ms, tg, ra, rfl, h14, hra, by omega, hgd.hsg.2.2.1, hsgn, fun co ca H15 s15 n15 hcol => ?_⟩
    have hR2 := hR0.same (s14.trans s15)
    refine ⟨_, rfl, a, C, dx, _, rfl, hR2.ha, CH.cl, CH.nC, (by show 6 < 1000; decide), ?_⟩
    rw [show putF ("_columns" : Str) (V.ref co) (rdF sg m f st D2 D3 []) = rdF sg m f st D2 D3 [("_columns", .ref co)] from pf7 _ _ _ _ _ _ _]
    have nin : ∀ {x : Addr} {o : HO}, H15 x = some o → (∀ c d fs, o ≠ .ins c d fs) → x ≠ a := fun e n z => by rw [z, hR2.ha] at e; exact n _ _ _ (Option.some.inj e).symm
    refine k _ (fun x o n e => by rw [upd_ne n]; exact (s14.trans s15) _ _ (kk13 _ _ n (s13 _ _ e))) ⟨dx, m, st, D2, D3, sa, la, co, ca, ⟨upd_same, ?_, ?_, fun x hx => ?_, ?_, ?_, fun x hx => ?_⟩, ⟨?_, fun c hc => ?_⟩⟩
    · rw [upd_ne (nin hR2.hm (by intro _ _ _ h; cases h))]; exact hR2.hm
    · rw [upd_ne (nin hR2.hst (by intro _ _ _ h; cases h))]; exact hR2.hst
    · rw [upd_ne (nin (hR2.hsa x hx) (by intro _ _ _ h; cases h))]; exact hR2.hsa x hx
    · rw [upd_ne (nin hR2.hnu (by intro _ _ _ h; cases h))]; exact hR2.hnu
    · rw [upd_ne (nin hR2.hle (by intro _ _ _ h; cases h))]; exact hR2.hle
    · rw [upd_ne (nin (hR2.hla x hx) (by intro _ _ _ h; cases h))]; exact hR2.hla x hx
    · rw [upd_ne (nin hcol.hco (by intro _ _ _ h; cases h))]; exact hcol.hco
    · rw [upd_ne (nin (hcol.hca c hc) (by intro _ _ _ h; cases h))]; exact hcol.hca c hc
end
end Toy
set_option maxHeartbeats 2000000
namespace Toy
open PySem L2 C8 SX LX
section
variable {P : Program} {w : World} {K : PySem.W.Frag} {mg : Str → Option Value} {base : Heap}
abbrev s_ismark : Stmt := top 21
abbrev n_ismark : List Str := ["reader", "value"]
theorem sc_ismark : FnScope n_ismark ["reader", "value"] (fnScope s_ismark) := fnScope_by (by decide +kernel)
def spIsMark (C : Addr) : Sp := fun vs H Q _ => ∃ (a : Addr) (sg : List Nat) (ms : List (List Nat)) (f : List Nat) (tg : List Nat → Nat → List Nat) (x : List Nat), vs = [.ref a, .str (S x)] ∧ Rdr C H a sg ms f tg ∧ Q (.bl (decide (x ∈ ms))) H
theorem ok_ismark {C : Addr} (T : BT mg) (CH : CR K C) {f : Addr} {fd : FuncData} (F : Def K mg "is_mark" s_ismark f fd) (b : Binds K fd ["reader", "value"] []) : Cal P w K mg base 1 "is_mark" (spIsMark C) [] := by
  refine cal0 F b .nil sc_ismark (fun vs H Q E h => ?_) (fun cdv A outer s H vs Q E hr h => ?_)
  · obtain ⟨a, sg, ms, f, tg, x, rfl, _⟩ := h; rfl
  · obtain ⟨a, sg, ms, f, tg, x, rfl, ⟨dx, m, st, nu, le, sa, la, co, ca, r, hcol⟩, k⟩ := h
    refine ⟨_, (pss_one (ps_ret (pe_and (pe_callB (isiK K) (by rfl) T.m_isinstance PyProof.Rows.boot_isinstance (pa_cons (pv 1) (pa_cons (pe_bltn (v := .ty "str") (by rfl) T.m_str PyProof.Rows.boot_str rfl) pa_nil))) (pe_one (pe_cmpR (inK K) (pv 1) (fldK K (pv 0) rfl) rfl))))
      ), ?_⟩
    refine ⟨_, rfl, ?_⟩
    refine ⟨_, _, _, _, true, rfl, .ty _, .base (.str _), kit_ty (by decide +kernel), true, rfl, iteT ?_⟩
    refine ⟨_, rfl, _, rfl, a, C, dx, _, _, rfl, r.ha, CH.cl, CH.nM, rl_marks, ?_⟩
    refine ⟨m, txs ms, rfl, .inr (SqT.of r.hm), rfl, flat_txs _, ?_⟩
    rw [inV_txs]
    exact k
abbrev s_m_led : Stmt := inClass (top 19) 2
abbrev n_m_led : List Str := ["self", "mark", "row", "sign"]
theorem sc_m_led : FnScope n_m_led ["self", "mark", "row"] (fnScope s_m_led) := fnScope_by (by decide +kernel)
def spMLed (C : Addr) : Sp := fun vs H Q _ => ∃ (a : Addr) (sg : List Nat) (ms : List (List Nat)) (f : List Nat) (tg : List Nat → Nat → List Nat) (x row : List Nat), vs = [.ref a, .str (S x), .str (S row)] ∧ Rdr C H a sg ms f tg ∧ Good sg ms f tg ∧ x ∈ ms ∧ Ov sg row ∧ row.length ≤ 1000 ∧
  ∀ H', Same H H' → Q (.str (S (ledTo tg x row))) H'
theorem ok_mled {C : Addr} (T : BT mg) (CH : CR K C) (c_ismark : Cal P w K mg base 1 "is_mark" (spIsMark C) []) (c_isrow : Cal P w K mg base 1 "is_row" spIsRow []) {f : Addr} {fd : FuncData} (me : Meth K C "led" f) (F : C8.Fun K "led" "Reader.led" s_m_led f fd) (b : Binds K fd ["self", "mark", "row"] []) : Met P w K mg base 2 C "led" (spMLed C) [] := by
  refine met0 CH.cl me F b sc_m_led (fun vs H Q E h => ?_) (fun cdv A outer s H vs Q E hr h => ?_)
  · obtain ⟨a, sg, ms, f, tg, x, row, rfl, _⟩ := h; rfl
  · obtain ⟨a, sg, ms, f, tg, x, row, rfl, hrd, hgd, hx, ho, hl, k⟩ := h
    obtain ⟨dx, m, st, nu, le, sa, la, co, ca, r, hcol⟩ := id hrd
    refine ⟨_, (pss_cons (ps_if (pt_not (pt_val (pe_c c_ismark hr (by first | decide | omega) (by rfl) (pa_cons (pv 0) (pa_cons (pv 1) pa_nil))))) 
        (pss_one ps_never
        )
       pss_nil)
      (pss_cons (ps_if (pt_not (pt_val (pe_c c_isrow hr (by first | decide | omega) (by rfl) (pa_cons (pv 2) (pa_cons (fldK K (pv 0) rfl) pa_nil))))) 
        (pss_one ps_never
        )
       pss_nil)
      (pss_cons (ps_for PassesOwn.never rfl (pi_str (pv 2)) (pg_name (i := 3) sc_m_led.nd rfl (.inl rfl)) 
        (pss_one (ps_set (i := 1) sc_m_led.nd rfl (.inl rfl) (pe_dget (hu_of hr) (pe_dget (hu_of hr) (fldK K (pv 0) rfl) (pv 1) (fun _ _ => rfl)) (pv 3) (fun _ _ => rfl)))
        ))
      (pss_one (ps_ret (pv 1))
      )))), ?_⟩
    refine ⟨_, rfl, _, rfl, a, sg, ms, f, tg, x, rfl, hrd, ?_⟩
    refine ⟨_, rfl, iteN (by rw [decide_eq_true hx]; rfl) ?_⟩
    refine ⟨_, rfl, _, rfl, a, C, dx, _, _, rfl, r.ha, CH.cl, CH.nS, rl_signs, ?_⟩
    refine ⟨sg, row, rfl, hl, ?_⟩
    rw [decide_eq_true ho]
    refine ⟨true, rfl, iteN rfl ?_⟩
    have s1 := Same.refl H
    refine ⟨_, rfl, _, rfl, for_it walk_str (fun i σ H' => ∃ s3 : Option V, σ = [some (.ref a), some (.str (S (ledTo tg x (row.take i)))), some (.str (S row)), s3] ∧ H' = H) ⟨none, rfl, rfl⟩ (fun _ _ _ _ _ => trivial) ?_ ?_⟩
    · rintro i y σ H2 H2' hi ⟨s3, rfl, rfl⟩ ⟨rfl, c, hc, rfl⟩
      have hc' : row[i]? = some c := by simpa [S] using hc
      have hmi : ledTo tg x (row.take i) ∈ ms := led_in hgd.htg (fun d hd => ho d (List.mem_of_mem_take hd)) hx
      have r1 : RdrAt C _ a sg ms f tg dx m st nu le sa la _ := ⟨s1 _ _ r.ha, s1 _ _ r.hm, s1 _ _ r.hst, fun x hx => s1 _ _ (r.hsa x hx), s1 _ _ r.hnu, s1 _ _ r.hle, fun x hx => s1 _ _ (r.hla x hx)⟩
      refine ⟨_, rfl, a, C, dx, _, _, rfl, r1.ha, CH.cl, CH.nL, rl_leads, ?_⟩
      refine ⟨_, rfl, _, _, rfl, r1.mark hmi, ?_⟩
      refine ⟨_, rfl, _, _, rfl, r1.at_ hmi (ho c (List.mem_of_getElem? hc')), ?_⟩
      have e1 : ledTo tg x (row.take (i + 1)) = tg (ledTo tg x (row.take i)) c := by
        rw [take_more hc']
        unfold ledTo
        rw [List.foldl_append]
        rfl
      exact ⟨_, by rw [e1]; rfl, rfl⟩
    · rintro σ H2 ⟨s3, rfl, rfl⟩
      refine ⟨_, rfl, ?_⟩
      have e : row.take (S row).cps.size = row := by rw [show (S row).cps.size = row.length by simp [S], List.take_length]
      show Q (V.str (S (ledTo tg x (List.take (S row).cps.size row)))) _
      rw [e]
      exact k _ s1
abbrev s_m_read : Stmt := inClass (top 19) 3
abbrev n_m_read : List Str := ["self", "row"]
theorem sc_m_read : FnScope n_m_read ["self", "row"] (fnScope s_m_read) := fnScope_by (by decide +kernel)
def spMRead (C : Addr) : Sp := fun vs H Q _ => ∃ (a : Addr) (sg : List Nat) (ms : List (List Nat)) (f : List Nat) (tg : List Nat → Nat → List Nat) (row : List Nat), vs = [.ref a, .str (S row)] ∧ Rdr C H a sg ms f tg ∧ Good sg ms f tg ∧ Ov sg row ∧ row.length ≤ 1000 ∧
  ∀ H', Same H H' → Q (.str (S (ledTo tg f row))) H'
theorem ok_mread {C : Addr} (T : BT mg) (CH : CR K C) (c_m_led : Met P w K mg base 2 C "led" (spMLed C) []) {f : Addr} {fd : FuncData} (me : Meth K C "read" f) (F : C8.Fun K "read" "Reader.read" s_m_read f fd) (b : Binds K fd ["self", "row"] []) : Met P w K mg base 3 C "read" (spMRead C) [] := by
  refine met0 CH.cl me F b sc_m_read (fun vs H Q E h => ?_) (fun cdv A outer s H vs Q E hr h => ?_)
  · obtain ⟨a, sg, ms, f, tg, row, rfl, _⟩ := h; rfl
  · obtain ⟨a, sg, ms, f, tg, row, rfl, hrd, hgd, ho, hl, k⟩ := h
    obtain ⟨dx, m, st, nu, le, sa, la, co, ca, r, hcol⟩ := id hrd
    refine ⟨_, (pss_one (ps_ret (pe_mt c_m_led hr (by decide) (pv 0) (pa_cons (fldK K (pv 0) rfl) (pa_cons (pv 1) pa_nil))))
      ), ?_⟩
    refine ⟨_, rfl, a, dx, _, rfl, r.ha, rdr_no (.inr ⟨co, rfl⟩) (by decide +kernel), ?_⟩
    refine ⟨_, rfl, a, C, dx, _, _, rfl, r.ha, CH.cl, CH.nF, rl_first, _, rfl, ?_⟩
    exact ⟨a, sg, ms, f, tg, f, row, rfl, hrd, hgd, hgd.hf, ho, hl, k⟩
end
end Toy
set_option maxHeartbeats 2000000
namespace Toy
open PySem L2 C8 SX LX
abbrev WL := List (Nat × List Nat)
def inn (lead : Nat → Nat → Nat) (isl : Nat → Bool) (t : Nat) (r : List Nat) : Nat → List Nat → WL → WL
  | _, [], L => L
  | i, c :: cs, L => if lead t i ∈ L.map (·.1) then inn lead isl t r (i + 1) cs L else if isl (lead t i) = true then L ++ [(lead t i, r ++ [c])] else inn lead isl t r (i + 1) cs (L ++ [(lead t i, r ++ [c])])
def lastOf (L : WL) : Nat := (L.getLast?.getD (0, [])).1
def outW (lead : Nat → Nat → Nat) (isl : Nat → Bool) (sg : List Nat) : Nat → Nat → WL → WL
  | 0, _, L => L
  | n + 1, at_, L => match L[at_]? with
    | none => L
    | some (t, r) => if isl (lastOf L) = true then L else outW lead isl sg n (at_ + 1) (inn lead isl t r 0 sg L)
def walkR (lead : Nat → Nat → Nat) (isl : Nat → Bool) (sg : List Nat) (N b : Nat) : WL := outW lead isl sg (N + 1) 0 [(b, [])]
def thV (L : WL) : List V := L.map fun p => .int (p.1 : Nat)
def thK (L : WL) : List (Key × V) := L.map fun p => (Sum.inl (p.1 : Int), .str (S p.2))
structure WOk (N : Nat) (L : WL) : Prop where
  nd : (L.map (·.1)).Nodup
  lt : ∀ p ∈ L, p.1 < N
  rl : ∀ p ∈ L, p.2.length < L.length
theorem nodup_len : ∀ (N : Nat) (l : List Nat), l.Nodup → (∀ x ∈ l, x < N) → l.length ≤ N
  | 0, l, _, h => by
    cases l with
    | nil => exact Nat.le_refl _
    | cons a l => exact absurd (h a List.mem_cons_self) (Nat.not_lt_zero _)
  | n + 1, l, nd, h => by
    have ih := nodup_len n (l.erase n) (nd.erase n) fun x hx => by
      have := (nd.mem_erase_iff).mp hx
      have h2 := h x this.2
      omega
    have := List.length_erase (a := n) (l := l)
    split at this <;> omega
theorem WOk.len {N : Nat} {L : WL} (h : WOk N L) : L.length ≤ N := by
  have := nodup_len N (L.map (·.1)) h.nd fun x hx => by obtain ⟨p, hp, rfl⟩ := List.mem_map.mp hx; exact h.lt p hp
  simpa using this
theorem WOk.put {N : Nat} {L : WL} (h : WOk N L) {f : Nat} {r : List Nat} (hf : f < N) (hn : f ∉ L.map (·.1)) (hr : r.length ≤ L.length) : WOk N (L ++ [(f, r)]) := by
  refine ⟨?_, fun p hp => ?_, fun p hp => ?_⟩
  · rw [List.map_append, List.nodup_append]
    refine ⟨h.nd, by simp, fun a ha b hb e => ?_⟩
    have : b = f := by simpa using hb
    subst this; subst e; exact hn ha
  · rcases List.mem_append.mp hp with q | q
    · exact h.lt p q
    · rw [List.mem_singleton.mp q]; exact hf
  · rw [List.length_append, List.length_singleton]
    rcases List.mem_append.mp hp with q | q
    · exact Nat.lt_succ_of_lt (h.rl p q)
    · rw [List.mem_singleton.mp q]; exact Nat.lt_succ_of_le hr
theorem inl_inj {a b : Nat} (h : (Sum.inl (a : Int) : Key) = Sum.inl (b : Int)) : a = b := by have := Sum.inl.inj h; omega
theorem thK_none {L : WL} {f : Nat} (h : f ∉ L.map (·.1)) : valV (thK L) (Sum.inl (f : Int)) = none := valV_none fun p hp e => by
  obtain ⟨q, hq, rfl⟩ := List.mem_map.mp hp
  exact h (List.mem_map.mpr ⟨q, hq, inl_inj e⟩)
theorem thK_some {L : WL} {f : Nat} {r : List Nat} (nd : (L.map (·.1)).Nodup) (h : (f, r) ∈ L) : valV (thK L) (Sum.inl (f : Int)) = some (.str (S r)) := by
  induction L with
  | nil => cases h
  | cons p L ih =>
    rw [List.map_cons, List.nodup_cons] at nd
    unfold thK at ih ⊢
    rw [List.map_cons]
    rcases List.mem_cons.mp h with e | e
    · rw [← e]; exact valV_pos rfl
    · rw [valV_neg fun q => ?_]
      · exact ih nd.2 e
      · have : p.1 = f := inl_inj q
        exact nd.1 (by rw [this]; exact List.mem_map.mpr ⟨(f, r), e, rfl⟩)
theorem putK_th {L : WL} {f : Nat} {r : List Nat} (h : f ∉ L.map (·.1)) : putK (thK L) (Sum.inl (f : Int)) (.str (S r)) = thK (L ++ [(f, r)]) := by
  rw [putK_new _ (thK_none h)]; unfold thK; rw [List.map_append]; rfl
theorem thV_get {L : WL} {i : Nat} {x : V} (h : (thV L)[i]? = some x) : ∃ q, L[i]? = some q ∧ x = .int (q.1 : Nat) := by
  unfold thV at h
  rw [List.getElem?_map] at h
  cases e : L[i]? with
  | none => rw [e] at h; cases h
  | some q => rw [e] at h; exact ⟨q, rfl, (Option.some.inj h).symm⟩
theorem refs_of : ∀ {ys : List V}, (∀ (j : Nat) y, ys[j]? = some y → ∃ t, y = .ref t) → ∃ ps : List Addr, ys = ps.map V.ref
  | [], _ => ⟨[], rfl⟩
  | y :: ys, h => by
    obtain ⟨t, rfl⟩ := h 0 y rfl
    obtain ⟨ps, rfl⟩ := refs_of (ys := ys) fun j z e => h (j + 1) z e
    exact ⟨t :: ps, rfl⟩
theorem at_neg {xs : List V} {v : V} (h : 0 < xs.length) (e : xs[xs.length - 1]? = some v) : atI xs (-1) = some v := by
  have : ixN xs.length (-1) = some (xs.length - 1) := by
    unfold ixN
    rw [if_neg (by decide), if_pos (by omega)]
    congr 1; omega
  unfold atI
  rw [this]; exact e
section
variable {P : Program} {w : World} {K : PySem.W.Frag} {mg : Str → Option Value} {base : Heap}
abbrev s_until : Stmt := top 17
abbrev n_until : List Str := ["signs", "begin", "lead", "is_last", "things", "rows", "at", "number", "sign", "following", "thing"]
theorem sc_until : FnScope n_until ["signs", "begin", "lead", "is_last"] (fnScope s_until) := fnScope_by (by decide +kernel)
def spL (N m : Nat) (lead : Nat → Nat → Nat) : Sp := fun vs H Q _ => ∃ t i : Nat, vs = [.int (t : Nat), .int (i : Nat)] ∧ t < N ∧ i < m ∧ ∀ H', Same H H' → Q (.int (lead t i : Nat)) H'
def spI (N : Nat) (isl : Nat → Bool) : Sp := fun vs H Q _ => ∃ t : Nat, vs = [.int (t : Nat)] ∧ t < N ∧ ∀ H', Same H H' → Q (.bl (isl t)) H'
def spUntil (N : Nat) (gl gi : Addr) (trl tri : Hp → Prop) (lead : Nat → Nat → Nat) (isl : Nat → Bool) (sg : List Nat) : Sp := fun vs H Q _ => ∃ b : Nat, vs = [.str (S sg), .int (b : Nat), .ref gl, .ref gi] ∧ b < N ∧ trl H ∧ tri H ∧
  ∀ (p : Addr) (ps : List Addr) (H' : Hp), Same H H' → H p = none → H' p = some (.lst (ps.map V.ref)) → ps.length = (walkR lead isl sg N b).length → (∀ (i : Nat) (a : Addr) (q : Nat × List Nat), ps[i]? = some a → (walkR lead isl sg N b)[i]? = some q → H' a = some (.tup [.int (q.1 : Nat), .str (S q.2)])) → Q (.ref p) H'
theorem ok_until {N : Nat} (hN : N ≤ 900) {kl : Nat} {gl gi : Addr} {trl tri : Hp → Prop} {lead : Nat → Nat → Nat} {isl : Nat → Bool} {sg : List Nat} (hl3 : sg.length ≤ 3) (T : BT mg) (c_lead : CV P w K mg base kl gl trl (spL N sg.length lead)) (c_is_last : CV P w K mg base kl gi tri (spI N isl))
    (stl : ∀ H H', Same H H' → trl H → trl H') (sti : ∀ H H', Same H H' → tri H → tri H') (hlead : ∀ t i, t < N → i < sg.length → lead t i < N)
    {f : Addr} {fd : FuncData} (F : Def K mg "_walked_until" s_until f fd) (b : Binds K fd ["signs", "begin", "lead", "is_last"] []) : Cal P w K mg base (kl + 1) "_walked_until" (spUntil N gl gi trl tri lead isl sg) [] := by
  refine cal0 F b .nil sc_until (fun vs H Q E h => ?_) (fun cdv A outer s H vs Q E hr h => ?_)
  · obtain ⟨b, rfl, _⟩ := h; rfl
  · obtain ⟨b, rfl, hbN, htl, hti, k⟩ := h
    refine ⟨_, (pss_cons (ps_set (i := 4) sc_until.nd rfl (.inl rfl) (pe_lst (pa_cons (pv 1) pa_nil)))
      (pss_cons (ps_set (i := 5) sc_until.nd rfl (.inr rfl) (pe_disp (pps_cons (pv 1) pe_str pps_nil) rfl rfl (by decide) (by decide)))
      (pss_cons (ps_set (i := 6) sc_until.nd rfl (.inl rfl) pe_int)
      (pss_cons (ps_while PassesOwn.never (PW.pt (pw_and (pt_cmpR op_lt (pv 6) (pe_callB (lenK K) (by rfl) T.m_len PySem.boot_len (pa_cons (pv 4) pa_nil)) (nomark _)) (pw_and1 (pt_not (pt_val (pe_callV (i := 3) c_is_last hr (Nat.le_refl _) rfl (.inl rfl) (pa_cons (pe_ix (ixl K) (pv 4) (pe_un un_neg pe_int) (fun _ _ => rfl)) pa_nil))))))) 
        (pss_cons (ps_for PassesOwn.never rfl (pi_enumX (by rfl) T.m_enumerate (pa_cons (pv 0) pa_nil)) (tupK K 2 (pgs_cons (pg_name (i := 7) sc_until.nd rfl (.inl rfl)) (pgs_cons (pg_name (i := 8) sc_until.nd rfl (.inl rfl)) pgs_nil))) 
          (pss_cons (ps_set (i := 9) sc_until.nd rfl (.inl rfl) (pe_callV (i := 2) c_lead hr (Nat.le_refl _) rfl (.inl rfl) (pa_cons (pe_ix (ixl K) (pv 4) (pv 6) (fun _ _ => rfl)) (pa_cons (pv 7) pa_nil))))
          (pss_one (ps_if (pt_cmp (pc_dnotin (hu_of hr) (pv 9) (pv 5))) 
            (pss_cons (ps_dput (hu_of hr) (pv 5) (pv 9) (pe_op op_add_str (pe_dget (hu_of hr) (pv 5) (pe_ix (ixl K) (pv 4) (pv 6) (fun _ _ => rfl)) (fun _ _ => rfl)) (pv 8)) rfl)
            (pss_cons (ps_expr (pe_bm PySem.F.plainAttrs_list PySem.F.slot_list_append PySem.F.type_list_append mt_append (pv 4) (pa_cons (pv 9) pa_nil)))
            (pss_one (ps_if (pt_val (pe_callV (i := 3) c_is_last hr (Nat.le_refl _) rfl (.inl rfl) (pa_cons (pv 9) pa_nil))) 
              (pss_one ps_break
              )
             pss_nil)
            )))
           pss_nil)
          )))
        (pss_one (ps_aug (i := 6) sc_until.nd rfl (.inl rfl) pe_int ip_add)
        )))
      (pss_one (ps_ret (pe_lc (own := [("thing", 10)]) rfl sc_until.nd (pi_list (pv 4)) (blkOk_by (N := n_until) (sc := fnScope s_until) (by decide +kernel)) (fun _ _ _ _ _ => (pg_name (i := 10) sc_until.nd rfl (.inl rfl))) (fun _ _ _ _ _ => pts_nil) (fun _ _ _ _ _ => (pe_tup (pa_cons (pv 10) (pa_cons (pe_dget (hu_of hr) (pv 5) (pv 10) (fun _ _ => rfl)) pa_nil))))))
      ))))), ?_⟩
    refine ⟨_, rfl, (by show 1 ≤ sizeLine; decide), fun p hp => ?_⟩
    refine fun d hd => ⟨_, rfl, upd_same, [(Sum.inl (b : Int), .str (Str.ofString ""))], rfl, (by show 1 ≤ 15; decide), ?_⟩
    have hpd : p ≠ d := fun e => by rw [← e, upd_same] at hd; cases hd
    have hd0 : H d = none := by rw [upd_ne hpd.symm] at hd; exact hd
    have em : mergeK [] [((Sum.inl (b : Int) : Key), V.str (Str.ofString ""))] = thK [(b, [])] := by rw [s_nil]; rfl
    rw [em]
    generalize hH1 : upd (upd (upd H p (.lst [.int (b : Nat)])) d (.dK [])) d (.dK (thK [(b, [])])) = H1
    have s1 : Same H H1 := by rw [← hH1]; exact sm_put (sm_put (sm_put (Same.refl H) hp) hd0) hd0
    have hp1 : H1 p = some (.lst (thV [(b, [])])) := by rw [← hH1, upd_ne hpd, upd_ne hpd, upd_same]; rfl
    have hd1 : H1 d = some (.dK (thK [(b, [])])) := by rw [← hH1, upd_same]
    clear hH1 em hd
    refine ⟨fun m σ H' => ∃ (L : WL) (at_ : Nat) (s7 s8 s9 : Option V), m = N + 1 - at_ ∧ at_ ≤ N + 1 ∧ σ = [some (.str (S sg)), some (.int (b : Nat)), some (.ref gl), some (.ref gi), some (.ref p), some (.ref d), some (.int (at_ : Nat)), s7, s8, s9, none] ∧
      Same H H' ∧ H' p = some (.lst (thV L)) ∧ H' d = some (.dK (thK L)) ∧ WOk N L ∧ 0 < L.length ∧ outW lead isl sg (N + 1 - at_) at_ L = walkR lead isl sg N b, ?_, ?_⟩
    · exact ⟨N + 1, [(b, [])], 0, _, _, _, rfl, Nat.zero_le _, rfl, s1, hp1, hd1, ⟨by simp, fun q hq => by rw [List.mem_singleton.mp hq]; exact hbN, fun q hq => by rw [List.mem_singleton.mp hq]; exact Nat.zero_lt_one⟩, Nat.zero_lt_one, rfl⟩
    rintro m σ H2 ⟨L, at_, s7, s8, s9, rfl, hat, rfl, s2, hp2, hd2, hW, hL0, hO⟩
    have hLN := hW.len
    have hlen : (thV L).length = L.length := by unfold thV; rw [List.length_map]
    refine ⟨_, rfl, _, rfl, p, _, rfl, .inl (SqL.of hp2), _, _, rfl, rfl, _, rfl, ?_⟩
    rw [hlen]
    refine ite2 (fun hc => ?_) (fun hc => ?_)
    · have hal : at_ < L.length := by rw [decide_eq_true_eq] at hc; omega
      obtain ⟨⟨t, r⟩, htr⟩ : ∃ q, L[at_]? = some q := ⟨_, List.getElem?_eq_getElem hal⟩
      obtain ⟨⟨tl, rl⟩, htl'⟩ : ∃ q, L[L.length - 1]? = some q := ⟨_, List.getElem?_eq_getElem (by omega)⟩
      have hlast : lastOf L = tl := by unfold lastOf; rw [List.getLast?_eq_getElem?, htl']; rfl
      have hti2 := sti _ _ s2 hti
      refine ⟨rfl, hti2, ?_⟩
      refine ⟨_, rfl, _, rfl, p, thV L, -1, .int (tl : Nat), rfl, rfl, SqL.of hp2, at_neg (by rw [hlen]; omega) (by rw [hlen]; unfold thV; rw [List.getElem?_map, htl']; rfl), ?_⟩
      refine ⟨hti2, tl, rfl, hW.lt _ (List.mem_of_getElem? htl'), fun H3 h3 => ?_⟩
      have s3 := s2.trans h3
      have hp3 := h3 _ _ hp2
      have hd3 := h3 _ _ hd2
      refine ⟨_, rfl, ?_⟩
      obtain ⟨n', hn'⟩ : ∃ n', N + 1 - at_ = n' + 1 := ⟨N - at_, by omega⟩
      cases hil : isl tl with
      | true =>
        refine iteN rfl ?_
        have hO' : L = walkR lead isl sg N b := by
          rw [← hO, hn']
          show L = (match L[at_]? with | none => L | some (t, r) => if isl (lastOf L) = true then L else outW lead isl sg n' (at_ + 1) (inn lead isl t r 0 sg L))
          rw [htr]
          show L = if isl (lastOf L) = true then L else _
          rw [hlast, if_pos hil]
        refine ⟨_, rfl, p, rfl, ⟨_, SqL.of hp3⟩, fun D hD => ?_⟩
        refine lc_keepH keep_same (walk_list (K := K) (a := p) (xs := thV L)) hD (by rw [hlen]; exact small1000 (by omega)) (fun j y H => ∃ t, y = .ref t ∧ ∀ q, L[j]? = some q → H t = some (.tup [.int (q.1 : Nat), .str (S q.2)])) (fun H r => SqL.of (r _ _ hp3))
          (fun _ _ _ _ _ r ⟨t, e, h⟩ => ⟨t, e, fun q hq => r _ _ (h q hq)⟩) (fun _ _ _ _ _ _ hDa ⟨t, e, h⟩ => ⟨t, e, fun q hq => by rw [upd_ne (ne_of (h q hq) hDa (by intro h; cases h))]; exact h q hq⟩) (fun i x H4 H4' acc R hi r hDa hy hR => ?_) (fun ys H4 hly hg r4 hDs => ?_)
        · obtain ⟨rfl, e⟩ := hy
          obtain ⟨q, hq, rfl⟩ := thV_get e
          refine ⟨rfl, _, rfl, _, rfl, _, rfl, d, _, rfl, .inl ⟨_, Sum.inl (q.1 : Int), .inl (r _ _ hd3), rfl, (thK_some hW.nd (List.mem_of_getElem? hq)).symm⟩, (by show 2 ≤ sizeLine; decide), fun t ht => hR _ _ (sm_new ht) ⟨t, rfl, fun q' h => by rw [hq] at h; rw [← Option.some.inj h]; exact upd_same⟩⟩
        · obtain ⟨ps, rfl⟩ := refs_of fun j y e => let ⟨t, e', _⟩ := hg j y e; ⟨t, e'⟩
          refine k D ps H4 (s3.trans r4) (s3.free hD) hDs ?_ fun i a q h1 h2 => ?_
          · rw [← hO', ← hlen, ← hly, List.length_map]
          · rw [← hO'] at h2
            obtain ⟨t, e, h⟩ := hg i (.ref a) (by rw [List.getElem?_map, h1]; rfl)
            cases e
            exact h q h2
      | false =>
        refine iteB rfl ?_
        have hO' : outW lead isl sg (N + 1 - (at_ + 1)) (at_ + 1) (inn lead isl t r 0 sg L) = walkR lead isl sg N b := by
          rw [← hO, hn', show N + 1 - (at_ + 1) = n' by omega]
          symm
          show (match L[at_]? with | none => L | some (t, r) => if isl (lastOf L) = true then L else outW lead isl sg n' (at_ + 1) (inn lead isl t r 0 sg L)) = _
          rw [htr]
          show (if isl (lastOf L) = true then L else _) = _
          rw [hlast, if_neg (by rw [hil]; exact Bool.false_ne_true)]
        refine ⟨fun σ' H' => ∃ (L' : WL) (s7 s8 s9 : Option V), σ' = [some (.str (S sg)), some (.int (b : Nat)), some (.ref gl), some (.ref gi), some (.ref p), some (.ref d), some (.int ((at_ + 1 : Nat) : Int)), s7, s8, s9, none] ∧
          Same H H' ∧ H' p = some (.lst (thV L')) ∧ H' d = some (.dK (thK L')) ∧ WOk N L' ∧ 0 < L'.length ∧ outW lead isl sg (N + 1 - (at_ + 1)) (at_ + 1) L' = walkR lead isl sg N b,
          fun σ' H' ⟨L', s7, s8, s9, a1, a2, a3, a4, a5, a6, a7⟩ => ⟨N + 1 - (at_ + 1), by omega, L', at_ + 1, s7, s8, s9, rfl, by omega, a1, a2, a3, a4, a5, a6, a7⟩, ?_⟩
        have htN : t < N := hW.lt _ (List.mem_of_getElem? htr)
        refine ⟨_, rfl, .str (S sg), .txt (S sg), rfl, rfl, trivial, for_it (walk_enumX (K := K) (S := .txt (S sg)) (xs := sg.map fun c => V.str (S [c]))) (fun i σ H' => ∃ (L' : WL) (s7 s8 s9 : Option V), σ = [some (.str (S sg)), some (.int (b : Nat)), some (.ref gl), some (.ref gi), some (.ref p), some (.ref d), some (.int (at_ : Nat)), s7, s8, s9, none] ∧
          Same H H' ∧ H' p = some (.lst (thV L')) ∧ H' d = some (.dK (thK L')) ∧ WOk N L' ∧ 0 < L'.length ∧ L'[at_]? = some (t, r) ∧ inn lead isl t r i (sg.drop i) L' = inn lead isl t r 0 sg L)
          ⟨L, _, _, _, rfl, s3, hp3, hd3, hW, hL0, htr, rfl⟩ (fun _ _ _ _ _ => by show (sg.map fun c => V.str (S [c])) = _; simp [S]) ?_ ?_⟩
        · rintro i x σ H4 H4' hi ⟨L', s7, s8, s9, rfl, s4, hp4, hd4, hW4, hL4, htr4, hinn⟩ ⟨T, x1, x2, rfl, hT, rfl, e1, e2⟩
          obtain rfl : V.int (i : Nat) = x1 := Option.some.inj e1
          have e2 : (sg.map fun c => V.str (S [c]))[i]? = some x2 := e2
          rw [List.getElem?_map] at e2
          rw [List.length_map] at hi
          have hci : sg[i]? = some sg[i] := List.getElem?_eq_getElem hi
          generalize hcc : sg[i] = c at hci
          rw [hci] at e2
          obtain rfl : V.str (S [c]) = x2 := Option.some.inj e2
          have hdrop : sg.drop i = c :: sg.drop (i + 1) := by rw [List.drop_eq_getElem_cons hi, hcc]
          have sT : Same H4 (upd H4 T (.tup [.int (i : Nat), .str (S [c])])) := sm_new hT
          refine ⟨T, _, rfl, .inl (.inl upd_same), rfl, _, _, rfl, _, _, rfl, rfl, ?_⟩
          generalize hH5 : upd H4 T (.tup [.int (i : Nat), .str (S [c])]) = H5 at sT
          clear hH5
          have s5 := s4.trans sT
          have hp5 := sT _ _ hp4
          have hd5 := sT _ _ hd4
          have hlen4 : (thV L').length = L'.length := by unfold thV; rw [List.length_map]
          have hat4 : (thV L')[at_]? = some (.int (t : Nat)) := by unfold thV; rw [List.getElem?_map, htr4]; rfl
          have htl5 := stl _ _ s5 htl
          refine ⟨rfl, htl5, ?_⟩
          refine ⟨_, rfl, _, rfl, p, thV L', at_, .int (t : Nat), rfl, rfl, SqL.of hp5, at_of rfl hat4, _, rfl, htl5, t, i, rfl, htN, hi, fun H6 h6 => ?_⟩
          have s6 := s5.trans h6
          have hp6 := h6 _ _ hp5
          have hd6 := h6 _ _ hd5
          have hfN := hlead t i htN hi
          generalize hf : lead t i = f at hfN
          refine ⟨_, rfl, _, rfl, d, valV (thK L') (Sum.inl (f : Int)), rfl, .inl ⟨_, _, .inl hd6, rfl, rfl⟩, _, rfl, ?_⟩
          by_cases hin : f ∈ L'.map (·.1)
          · obtain ⟨⟨f', rf⟩, hmem, rfl⟩ := List.mem_map.mp hin
            rw [thK_some hW4.nd hmem]
            refine iteN rfl ?_
            refine ⟨L', _, _, _, rfl, s6, hp6, hd6, hW4, hL4, htr4, ?_⟩
            rw [← hinn, hdrop]
            show _ = if lead t i ∈ L'.map (·.1) then inn lead isl t r (i + 1) (sg.drop (i + 1)) L' else _
            rw [if_pos (by rw [hf]; exact hin)]
          · rw [thK_none hin]
            refine iteB rfl ?_
            have hrl := hW4.rl _ (List.mem_of_getElem? htr4)
            have hLN4 := hW4.len
            refine ⟨_, rfl, _, rfl, _, rfl, p, thV L', at_, .int (t : Nat), rfl, rfl, SqL.of hp6, at_of rfl hat4, d, .str (S r), rfl, .inl ⟨_, Sum.inl (t : Int), .inl hd6, rfl, (thK_some hW4.nd (List.mem_of_getElem? htr4)).symm⟩, ?_⟩
            have hr2 : r.length < L'.length := hrl
            refine ⟨_, rfl, S r, S [c], rfl, rfl, by rw [S_len, S_len]; exact sz (m := 1000) (by simp; omega) (by decide), ?_⟩
            refine ⟨_, rfl, _, rfl, d, _, rfl, DPut.k (k := Sum.inl (f : Int)) hd6 (by unfold thK; rw [List.length_map]; exact small1000 (by omega)), ?_⟩
            rw [S_cat, putK_th hin]
            have s7' : Same H (upd H6 d (.dK (thK (L' ++ [(f, r ++ [c])])))) := sm_put s6 hd0
            have hp7 : (upd H6 d (.dK (thK (L' ++ [(f, r ++ [c])])))) p = some (.lst (thV L')) := by rw [upd_ne hpd]; exact hp6
            refine ⟨_, rfl, .inl ⟨rfl, _, SqL.of hp7⟩, _, rfl, p, thV L', _, rfl, rfl, hp7, by rw [hlen4]; exact small1000 (by omega), ?_⟩
            have evV : thV L' ++ [V.int (f : Nat)] = thV (L' ++ [(f, r ++ [c])]) := by unfold thV; rw [List.map_append]; rfl
            rw [evV]
            have hW5 : WOk N (L' ++ [(f, r ++ [c])]) := hW4.put hfN hin (by rw [List.length_append, List.length_singleton]; exact hr2)
            have htr5 : (L' ++ [(f, r ++ [c])])[at_]? = some (t, r) := by rw [List.getElem?_append_left (List.getElem?_eq_some_iff.mp htr4).1]; exact htr4
            generalize hL5 : L' ++ [(f, r ++ [c])] = L5 at *
            have hL5p : 0 < L5.length := by rw [← hL5, List.length_append]; exact Nat.lt_add_left _ Nat.zero_lt_one
            have s8' : Same H (upd (upd H6 d (.dK (thK L5))) p (.lst (thV L5))) := sm_put s7' hp
            have hp8 : (upd (upd H6 d (.dK (thK L5))) p (.lst (thV L5))) p = some (.lst (thV L5)) := upd_same
            have hd8 : (upd (upd H6 d (.dK (thK L5))) p (.lst (thV L5))) d = some (.dK (thK L5)) := by rw [upd_ne hpd.symm, upd_same]
            generalize upd (upd H6 d (.dK (thK L5))) p (.lst (thV L5)) = H8 at s8' hp8 hd8 ⊢
            have hti8 := sti _ _ s8' hti
            refine ⟨rfl, hti8, _, rfl, hti8, f, rfl, hfN, fun H9 h9 => ?_⟩
            refine ⟨_, rfl, ?_⟩
            have hstep : inn lead isl t r i (sg.drop i) L' = if isl f = true then L5 else inn lead isl t r (i + 1) (sg.drop (i + 1)) L5 := by
              rw [hdrop]
              show (if lead t i ∈ L'.map (·.1) then _ else if isl (lead t i) = true then L' ++ [(lead t i, r ++ [c])] else inn lead isl t r (i + 1) (sg.drop (i + 1)) (L' ++ [(lead t i, r ++ [c])])) = _
              rw [if_neg (by rw [hf]; exact hin), hf, hL5]
            cases hif : isl f with
            | true =>
              refine iteB rfl ?_
              have hend : L5 = inn lead isl t r 0 sg L := by rw [← hinn, hstep, if_pos hif]
              refine ⟨_, rfl, _, _, rfl, rfl, ?_⟩
              exact ⟨L5, _, _, _, rfl, s8'.trans h9, h9 _ _ hp8, h9 _ _ hd8, hW5, hL5p, by rw [hend]; exact hO'⟩
            | false =>
              refine iteN rfl ?_
              refine ⟨L5, _, _, _, rfl, s8'.trans h9, h9 _ _ hp8, h9 _ _ hd8, hW5, hL5p, htr5, ?_⟩
              rw [← hinn, hstep, if_neg (by rw [hif]; exact Bool.false_ne_true)]
        · rintro σ H4 ⟨L', s7, s8, s9, rfl, s4, hp4, hd4, hW4, hL4, htr4, hinn⟩
          have hend : L' = inn lead isl t r 0 sg L := by
            rw [← hinn, List.length_map, List.drop_length]; rfl
          refine ⟨_, rfl, _, _, rfl, rfl, ?_⟩
          exact ⟨L', _, _, _, rfl, s4, hp4, hd4, hW4, hL4, by rw [hend]; exact hO'⟩
    · have hal : L.length ≤ at_ := by simp only [decide_eq_true_eq] at hc; omega
      have hO' : L = walkR lead isl sg N b := by
        rw [← hO]
        cases hn : N + 1 - at_ with
        | zero => rfl
        | succ n' =>
          show L = (match L[at_]? with | none => L | some (t, r) => _)
          rw [List.getElem?_eq_none hal]
      have s3 := s2
      have hp3 := hp2
      have hd3 := hd2
      refine ⟨_, rfl, p, rfl, ⟨_, SqL.of hp3⟩, fun D hD => ?_⟩
      refine lc_keepH keep_same (walk_list (K := K) (a := p) (xs := thV L)) hD (by rw [hlen]; exact small1000 (by omega)) (fun j y H => ∃ t, y = .ref t ∧ ∀ q, L[j]? = some q → H t = some (.tup [.int (q.1 : Nat), .str (S q.2)])) (fun H r => SqL.of (r _ _ hp3))
        (fun _ _ _ _ _ r ⟨t, e, h⟩ => ⟨t, e, fun q hq => r _ _ (h q hq)⟩) (fun _ _ _ _ _ _ hDa ⟨t, e, h⟩ => ⟨t, e, fun q hq => by rw [upd_ne (ne_of (h q hq) hDa (by intro h; cases h))]; exact h q hq⟩) (fun i x H4 H4' acc R hi r hDa hy hR => ?_) (fun ys H4 hly hg r4 hDs => ?_)
      · obtain ⟨rfl, e⟩ := hy
        obtain ⟨q, hq, rfl⟩ := thV_get e
        refine ⟨rfl, _, rfl, _, rfl, _, rfl, d, _, rfl, .inl ⟨_, Sum.inl (q.1 : Int), .inl (r _ _ hd3), rfl, (thK_some hW.nd (List.mem_of_getElem? hq)).symm⟩, (by show 2 ≤ sizeLine; decide), fun t ht => hR _ _ (sm_new ht) ⟨t, rfl, fun q' h => by rw [hq] at h; rw [← Option.some.inj h]; exact upd_same⟩⟩
      · obtain ⟨ps, rfl⟩ := refs_of fun j y e => let ⟨t, e', _⟩ := hg j y e; ⟨t, e'⟩
        refine k D ps H4 (s3.trans r4) (s3.free hD) hDs ?_ fun i a q h1 h2 => ?_
        · rw [← hO', ← hlen, ← hly, List.length_map]
        · rw [← hO'] at h2
          obtain ⟨t, e, h⟩ := hg i (.ref a) (by rw [List.getElem?_map, h1]; rfl)
          cases e
          exact h q h2
end
end Toy
set_option maxHeartbeats 2000000
namespace Toy
open PySem L2 C8 SX LX
section
variable {P : Program} {w : World} {K : PySem.W.Frag} {mg : Str → Option Value} {base : Heap}
abbrev s_never : Stmt := top 16
abbrev n_never : List Str := ["thing"]
theorem sc_never : FnScope n_never ["thing"] (fnScope s_never) := fnScope_by (by decide +kernel)
theorem ok_never {N : Nat} {f : Addr} {fd : FuncData} (F : Def K mg "_never" s_never f fd) (b : Binds K fd ["thing"] []) : Cal P w K mg base 1 "_never" (spI N fun _ => false) [] := by
  refine cal0 F b .nil sc_never (fun vs H Q E h => ?_) (fun cdv A outer s H vs Q E hr h => ?_)
  · obtain ⟨t, rfl, _⟩ := h; rfl
  · obtain ⟨t, rfl, ht, k⟩ := h
    refine ⟨_, (pss_one (ps_ret pe_bl)
      ), ?_⟩
    exact k H (Same.refl H)
theorem held_of {x : Str} {k : Nat} {sp : Sp} {g : Addr} (c : Cal P w K mg base k x sp []) (e : mg x = some (.ref g)) : Held P w K mg base k g sp := by
  obtain ⟨f, fd, ps, ds, F, n, kp, bd, dv⟩ := c.ex
  rw [e] at n; cases n
  cases dv
  exact ⟨fd, ps, F, kp, bd⟩
abbrev s_walked : Stmt := top 15
abbrev n_walked : List Str := ["signs", "begin", "lead"]
theorem sc_walked : FnScope n_walked ["signs", "begin", "lead"] (fnScope s_walked) := fnScope_by (by decide +kernel)
def spWalked (N : Nat) (gl : Addr) (trl : Hp → Prop) (lead : Nat → Nat → Nat) (sg : List Nat) : Sp := fun vs H Q _ => ∃ b : Nat, vs = [.str (S sg), .int (b : Nat), .ref gl] ∧ b < N ∧ trl H ∧
  ∀ (p : Addr) (ps : List Addr) (H' : Hp), Same H H' → H p = none → H' p = some (.lst (ps.map V.ref)) → ps.length = (walkR lead (fun _ => false) sg N b).length → (∀ (i : Nat) (a : Addr) (q : Nat × List Nat), ps[i]? = some a → (walkR lead (fun _ => false) sg N b)[i]? = some q → H' a = some (.tup [.int (q.1 : Nat), .str (S q.2)])) → Q (.ref p) H'
theorem ok_walked {N k : Nat} {gl gn : Addr} {trl : Hp → Prop} {lead : Nat → Nat → Nat} {sg : List Nat} (T : BT mg) (mgNv : mg "_never" = some (.ref gn)) (c_until : Cal P w K mg base k "_walked_until" (spUntil N gl gn trl (fun _ => True) lead (fun _ => false) sg) [])
    {f : Addr} {fd : FuncData} (F : Def K mg "walked" s_walked f fd) (b : Binds K fd ["signs", "begin", "lead"] []) : Cal P w K mg base (k + 1) "walked" (spWalked N gl trl lead sg) [] := by
  refine cal0 F b .nil sc_walked (fun vs H Q E h => ?_) (fun cdv A outer s H vs Q E hr h => ?_)
  · obtain ⟨b, rfl, _⟩ := h; rfl
  · obtain ⟨b, rfl, hb, ht, k⟩ := h
    refine ⟨_, (pss_one (ps_ret (pe_c c_until hr (by first | decide | omega) (by rfl) (pa_cons (pv 0) (pa_cons (pv 1) (pa_cons (pv 2) (pa_cons (pe_glob (v := .ref gn) (by rfl) mgNv rfl) pa_nil))))))
      ), ?_⟩
    refine ⟨_, rfl, _, rfl, _, rfl, ?_⟩
    exact ⟨b, rfl, hb, ht, trivial, k⟩
end
end Toy
set_option maxHeartbeats 2000000
namespace Toy
open PySem L2 C8 SX LX
section
variable {P : Program} {w : World} {K : PySem.W.Frag} {mg : Str → Option Value} {base : Heap}
abbrev s_rch : Stmt := top 24
abbrev n_rch : List Str := ["reader", "table", "lead", "rows", "at", "mark"]
theorem sc_rch : FnScope n_rch ["reader"] (fnScope s_rch) := fnScope_by (by decide +kernel)
abbrev s_rlead : Stmt := (fnBody s_rch).getD 1 (.Pass ⟨0, 0, 0, 0⟩)
abbrev n_rlead : List Str := ["number", "at", "table"]
abbrev fr_rlead : List Str := ["table"]
theorem sc_rlead : NdefX.NScope n_rlead ["number", "at"] fr_rlead (fnScope s_rlead) := NdefX.nscope_by (by decide +kernel)
theorem nd_rlead : NdefX.ndefB (fnScope s_rch) (fnScope s_rlead) fr_rlead = true := by decide +kernel
def TabAt (sg : List Nat) (ms : List (List Nat)) (tg : List Nat → Nat → List Nat) (tb : Addr) (ra : List Nat → Addr) (H : Hp) : Prop := H tb = some (.lst (ms.map fun x => .ref (ra x))) ∧ ∀ x ∈ ms, H (ra x) = some (.lst (tabI sg ms tg x))
def leadT (sg : List Nat) (ms : List (List Nat)) (tg : List Nat → Nat → List Nat) (t i : Nat) : Nat := ms.idxOf (tg (ms.getD t []) (sg.getD i 0))
def nspLead (sg : List Nat) (ms : List (List Nat)) (tg : List Nat → Nat → List Nat) : List (Option V) → Sp := fun ws vs H Q _ => ∃ (tb : Addr) (ra : List Nat → Addr) (t i : Nat), ws = [some (.ref tb)] ∧ vs = [.int (t : Nat), .int (i : Nat)] ∧ TabAt sg ms tg tb ra H ∧ t < ms.length ∧ i < sg.length ∧
  ∀ H', Same H H' → Q (.int (leadT sg ms tg t i : Nat)) H'
theorem nok_rlead {sg : List Nat} {ms : List (List Nat)} {tg : List Nat → Nat → List Nat} (T : BT mg) {g c' : Addr} {cl : List (Str × Addr)} : NdefX.NOk P w K mg base C8.CX0 1 g (NdefX.NF.of s_rlead "lead" "reached.<locals>.lead" cl c') ["number", "at"] fr_rlead (nspLead sg ms tg) := by
  refine NdefX.nok_of sc_rlead (fun _ _ _ us hl => match us, hl with | [_, _], _ => rfl) (fun ws vs H Q E h => ?_) (fun A outer s H vs ws Q E hr hf hc hl h => ?_)
  · obtain ⟨tb, ra, t, i, _, rfl, _⟩ := h; rfl
  · obtain ⟨tb, ra, t, i, rfl, rfl, ⟨h1, h2⟩, ht, hi, k⟩ := h
    refine ⟨_, (pss_one (ps_ret (pe_ix (ixl K) (pe_ix (ixl K) (pv 2) (pv 0) (fun _ _ => rfl)) (pv 1) (fun _ _ => rfl)))
      ), ?_⟩
    obtain ⟨x, hx⟩ : ∃ x, ms[t]? = some x := ⟨_, List.getElem?_eq_getElem ht⟩
    obtain ⟨c, hc⟩ : ∃ c, sg[i]? = some c := ⟨_, List.getElem?_eq_getElem hi⟩
    have hm : x ∈ ms := List.mem_of_getElem? hx
    have e : leadT sg ms tg t i = ms.idxOf (tg x c) := by unfold leadT; rw [List.getD_eq_getElem?_getD, List.getD_eq_getElem?_getD, hx, hc]; rfl
    refine ⟨_, rfl, _, rfl, tb, _, t, .ref (ra x), rfl, rfl, SqL.of h1, atI_nat (by rw [List.getElem?_map, hx]; rfl), ?_⟩
    refine ⟨_, rfl, ra x, _, i, .int (leadT sg ms tg t i : Nat), rfl, rfl, SqL.of (h2 x hm), atI_nat (by unfold tabI; rw [List.getElem?_map, hc, e]; rfl), ?_⟩
    exact k _ (Same.refl _)
theorem inn_ok {lead : Nat → Nat → Nat} {isl : Nat → Bool} {N t : Nat} {r : List Nat} : ∀ (cs : List Nat) (i : Nat) (L : WL), WOk N L → (t, r) ∈ L → (∀ j, i ≤ j → j < i + cs.length → lead t j < N) → WOk N (inn lead isl t r i cs L)
  | [], _, L, h, _, _ => h
  | c :: cs, i, L, h, ht, hl => by
    have ih : ∀ L : WL, WOk N L → (t, r) ∈ L → WOk N (inn lead isl t r (i + 1) cs L) := fun L h ht => inn_ok (isl := isl) cs (i + 1) L h ht fun j h1 h2 => hl j (by omega) (by simp only [List.length_cons]; omega)
    show WOk N (if lead t i ∈ L.map (·.1) then _ else if isl (lead t i) = true then _ else _)
    by_cases hin : lead t i ∈ L.map (·.1)
    · rw [if_pos hin]; exact ih L h ht
    · rw [if_neg hin]
      have hp : WOk N (L ++ [(lead t i, r ++ [c])]) := h.put (hl i (Nat.le_refl _) (by simp only [List.length_cons]; omega)) hin (by have := h.rl _ ht; rw [List.length_append, List.length_singleton]; exact this)
      by_cases hb : isl (lead t i) = true
      · rw [if_pos hb]; exact hp
      · rw [if_neg hb]; exact ih _ hp (List.mem_append_left _ ht)
theorem outW_ok {lead : Nat → Nat → Nat} {isl : Nat → Bool} {sg : List Nat} {N : Nat} (hlead : ∀ t i, t < N → i < sg.length → lead t i < N) : ∀ (n at_ : Nat) (L : WL), WOk N L → WOk N (outW lead isl sg n at_ L)
  | 0, _, L, h => h
  | n + 1, at_, L, h => by
    show WOk N (match L[at_]? with | none => L | some (t, r) => if isl (lastOf L) = true then L else outW lead isl sg n (at_ + 1) (inn lead isl t r 0 sg L))
    cases e : L[at_]? with
    | none => exact h
    | some q =>
      have hm := List.mem_of_getElem? e
      show WOk N (if isl (lastOf L) = true then L else _)
      by_cases hb : isl (lastOf L) = true
      · rw [if_pos hb]; exact h
      · rw [if_neg hb]
        exact outW_ok hlead n _ _ (inn_ok sg 0 L h hm fun j _ h2 => hlead _ _ (h.lt _ hm) (by omega))
theorem walkR_ok {lead : Nat → Nat → Nat} {isl : Nat → Bool} {sg : List Nat} {N b : Nat} (hb : b < N) (hlead : ∀ t i, t < N → i < sg.length → lead t i < N) : WOk N (walkR lead isl sg N b) :=
  outW_ok hlead _ _ _ ⟨by simp, fun q hq => by rw [List.mem_singleton.mp hq]; exact hb, fun q hq => by rw [List.mem_singleton.mp hq]; exact Nat.zero_lt_one⟩
theorem extN_same {H H' : Hp} (s : Same H H') : LamX.ExtN H H' := fun b o h _ => s b o h
theorem RdrAt.ext {C : Addr} {H H' : Hp} {a : Addr} {sg : List Nat} {ms : List (List Nat)} {f : List Nat} {tg : List Nat → Nat → List Nat} {dx m st nu le : Addr} {sa la : List Nat → Addr} {t : List (Str × V)} (h : RdrAt C H a sg ms f tg dx m st nu le sa la t) (s : LamX.ExtN H H') : RdrAt C H' a sg ms f tg dx m st nu le sa la t :=
  ⟨s _ _ h.ha (by intro _ z; cases z), s _ _ h.hm (by intro _ z; cases z), s _ _ h.hst (by intro _ z; cases z), fun x hx => s _ _ (h.hsa x hx) (by intro _ z; cases z), s _ _ h.hnu (by intro _ z; cases z), s _ _ h.hle (by intro _ z; cases z), fun x hx => s _ _ (h.hla x hx) (by intro _ z; cases z)⟩
theorem Rdr.ext {C : Addr} {H H' : Hp} {a : Addr} {sg : List Nat} {ms : List (List Nat)} {f : List Nat} {tg : List Nat → Nat → List Nat} (r : Rdr C H a sg ms f tg) (s : LamX.ExtN H H') : Rdr C H' a sg ms f tg :=
  let ⟨dx, m, st, nu, le, sa, la, co, ca, h, hc⟩ := r; ⟨dx, m, st, nu, le, sa, la, co, ca, h.ext s, ⟨s _ _ hc.hco (by intro _ z; cases z), fun c hx => s _ _ (hc.hca c hx) (by intro _ z; cases z)⟩⟩
def trL (cl : List (Str × Addr)) (gl c' : Addr) (sg : List Nat) (ms : List (List Nat)) (tg : List Nat → Nat → List Nat) (tb : Addr) (ra : List Nat → Addr) (H : Hp) : Prop :=
  H gl = some (NdefX.FnO gl (NdefX.NF.of s_rlead "lead" "reached.<locals>.lead" cl c')) ∧ H c' = some (LamX.CodeO c' "reached.<locals>.lead") ∧ TabAt sg ms tg tb ra H
theorem trL_same {cl : List (Str × Addr)} {gl c' : Addr} {sg : List Nat} {ms : List (List Nat)} {tg : List Nat → Nat → List Nat} {tb : Addr} {ra : List Nat → Addr} {H H' : Hp} (s : Same H H') (h : trL cl gl c' sg ms tg tb ra H) : trL cl gl c' sg ms tg tb ra H' :=
  ⟨s _ _ h.1, s _ _ h.2.1, s _ _ h.2.2.1, fun x hx => s _ _ (h.2.2.2 x hx)⟩
def Sx (cl : List (Str × Addr)) (ws : List (Option V)) (sp : Sp) : Prop := ∃ (sg : List Nat) (ms : List (List Nat)) (f : List Nat) (tg : List Nat → Nat → List Nat) (gl c' tb : Addr) (ra : List Nat → Addr), Good sg ms f tg ∧ ws = [some (.ref tb)] ∧
  sp = spWalked ms.length gl (trL cl gl c' sg ms tg tb ra) (leadT sg ms tg) sg
theorem lead_lt {sg : List Nat} {ms : List (List Nat)} {f : List Nat} {tg : List Nat → Nat → List Nat} (g : Good sg ms f tg) : ∀ t i, t < ms.length → i < sg.length → leadT sg ms tg t i < ms.length := fun t i ht hi => by
  unfold leadT
  refine List.idxOf_lt_length_of_mem ?_
  rw [List.getD_eq_getElem?_getD, List.getD_eq_getElem?_getD, List.getElem?_eq_getElem ht, List.getElem?_eq_getElem hi]
  exact g.htg _ (List.getElem_mem ht) _ (List.getElem_mem hi)
theorem up_made (T : BT mg) {gn gu gw : Addr} {fn fu fw : FuncData} (F_never : Def K mg "_never" s_never gn fn) (b_never : Binds K fn ["thing"] []) (F_until : Def K mg "_walked_until" s_until gu fu) (b_until : Binds K fu ["signs", "begin", "lead", "is_last"] [])
    (F_walked : Def K mg "walked" s_walked gw fw) (b_walked : Binds K fw ["signs", "begin", "lead"] []) (cl : List (Str × Addr)) (ws : List (Option V)) (sp : Sp) (base' : Heap) (h : Sx cl ws sp) (_ : K.In base') (_ : base'.Ns mainGlobals mg) (B : BCells cl fr_rlead ws base') : Cal P w K mg base' 3 "walked" sp [] := by
  obtain ⟨sg, ms, f, tg, gl, c', tb, ra, g, rfl, rfl⟩ := h
  have h8 := g.h8
  refine ok_walked T F_never.mgf (ok_until (by omega) g.hsg.2.2.1 T (.inr ⟨_, _, _, _, _, nok_rlead (sg := sg) (ms := ms) (tg := tg) T (c' := c') (cl := cl), fun vs H Q htr q => ?_, B, fun H htr => ⟨htr.1, htr.2.1⟩⟩) (.inl (held_of (ok_never F_never b_never) F_never.mgf)) (fun _ _ s h => trL_same s h) (fun _ _ _ h => h) (lead_lt g) F_until b_until) F_walked b_walked
  obtain ⟨t, i, rfl, ht, hi, k⟩ := q
  exact ⟨tb, ra, t, i, rfl, rfl, htr.2.2, ht, hi, k⟩
end
end Toy
set_option maxHeartbeats 2000000
namespace Toy
open PySem L2 C8 SX LX
section
variable {P : Program} {w : World} {K : PySem.W.Frag} {mg : Str → Option Value} {base : Heap}
def reachR (sg : List Nat) (ms : List (List Nat)) (f : List Nat) (tg : List Nat → Nat → List Nat) : WL := walkR (leadT sg ms tg) (fun _ => false) sg ms.length (ms.idxOf f)
def hasR (sg : List Nat) (ms : List (List Nat)) (f : List Nat) (tg : List Nat → Nat → List Nat) (i : Nat) : Bool := decide (i ∈ (reachR sg ms f tg).map (·.1))
def rowR (sg : List Nat) (ms : List (List Nat)) (f : List Nat) (tg : List Nat → Nat → List Nat) (i : Nat) : List Nat := ((reachR sg ms f tg).lookup i).getD []
def pairsR (sg : List Nat) (ms : List (List Nat)) (f : List Nat) (tg : List Nat → Nat → List Nat) : List (List Nat × List Nat) := (takenN (hasR sg ms f tg) ms.length).map fun i => (ms.getD i [], rowR sg ms f tg i)
theorem lookup_in {L : WL} {i : Nat} (h : i ∈ L.map (·.1)) : (i, (L.lookup i).getD []) ∈ L := by
  induction L with
  | nil => cases h
  | cons p L ih =>
    obtain ⟨a, r⟩ := p
    by_cases e : i = a
    · subst e; rw [List.lookup_cons_self]; exact List.mem_cons_self
    · have hne : (i == a) = false := beq_eq_false_iff_ne.mpr e
      rw [List.lookup_cons, hne]
      rcases List.mem_cons.mp h with q | q
      · exact absurd q e
      · exact List.mem_cons_of_mem _ (ih q)
theorem reachR_ok {sg : List Nat} {ms : List (List Nat)} {f : List Nat} {tg : List Nat → Nat → List Nat} (g : Good sg ms f tg) : WOk ms.length (reachR sg ms f tg) := walkR_ok (List.idxOf_lt_length_of_mem g.hf) (lead_lt g)
theorem merge_th {N : Nat} {L : WL} (h : WOk N L) : mergeK [] (L.map fun q => ((Sum.inl (q.1 : Int) : Key), V.str (S q.2))) = thK L := by
  refine merge_nil ?_
  rw [List.map_map, List.nodup_iff_pairwise_ne, List.pairwise_map]
  have := h.nd
  rw [List.nodup_iff_pairwise_ne, List.pairwise_map] at this
  exact this.imp fun n e => n (inl_inj e)
theorem paired_get {α : Type} {R : Addr → Key × V → Prop} {g : α → Key × V} : ∀ {ps : List Addr} {L : List α}, ps.length = L.length → (∀ (i : Nat) a q, ps[i]? = some a → L[i]? = some q → R a (g q)) → Paired R ps (L.map g)
  | [], [], _, _ => .nil
  | p :: ps, q :: L, e, h => .cons (h 0 p q rfl rfl) (paired_get (by simpa using e) fun i a q h1 h2 => h (i + 1) a q h1 h2)
  | [], _ :: _, e, _ => by simp at e
  | _ :: _, [], e, _ => by simp at e
def spReached (C : Addr) (TT : List NdefX.NTab) : Sp := fun vs H Q _ => ∃ (a : Addr) (sg : List Nat) (ms : List (List Nat)) (f : List Nat) (tg : List Nat → Nat → List Nat), vs = [.ref a] ∧ Rdr C H a sg ms f tg ∧ Good sg ms f tg ∧ NdefX.TabsN TT H ∧
  ∀ (p : Addr) (ps : List Addr) (H' : Hp), LamX.ExtN H H' → NdefX.TabsN TT H' → H' p = some (.tup (ps.map V.ref)) → ps.length = (pairsR sg ms f tg).length → (∀ (i : Nat) (a : Addr) (q : List Nat × List Nat), ps[i]? = some a → (pairsR sg ms f tg)[i]? = some q → H' a = some (.tup [.str (S q.1), .str (S q.2)])) → Q (.ref p) H'
theorem ok_reached {C : Addr} (T : BT mg) (CH : CR K C) {TT : List NdefX.NTab} {nm : Nat → Nat → Str} {cc PP : Addr} (TB : LamX.TabB base mg cc PP) (hm : (PP, nm) ∈ TT) (hnm : nm = fun _ _ => ("reached.<locals>.lead" : Str)) (hu : ∀ p ∈ TT, p.1 = PP → p.2 = nm)
    (c_m_num : Met P w K mg base 1 C "number_of" (spMNum C) []) (c_table : Cal P w K mg base 2 "table_of" (spTable C) [])
    {gw : Addr} {fw : FuncData} (F_walked : Def K mg "walked" s_walked gw fw) (up_walked : ∀ (cl : List (Str × Addr)) (ws : List (Option V)) (sp : Sp) (base' : Heap), Sx cl ws sp → K.In base' → base'.Ns mainGlobals mg → BCells cl fr_rlead ws base' → Cal P w K mg base' 3 "walked" sp [])
    {f : Addr} {fd : FuncData} (F : Def K mg "reached" s_rch f fd) (hc : fd.code = .ref cc) (b : Binds K fd ["reader"] []) : Cal P w K mg base 4 "reached" (spReached C TT) [] := by
  subst hnm
  refine calC F hc b .nil sc_rch (fun vs H Q E h => ?_) (fun A outer s H vs Q E hr h => ?_)
  · obtain ⟨a, sg, ms, f, tg, rfl, _⟩ := h; rfl
  · obtain ⟨a, sg, ms, f, tg, rfl, hrd, hgd, hT, k⟩ := h
    have h8 := hgd.h8
    refine ⟨_, (pss_cons (ps_set (i := 1) sc_rch.nd rfl (.inr rfl) (pe_c c_table hr (by first | decide | omega) (by rfl) (pa_cons (pv 0) pa_nil)))
      (pss_cons (NdefX.ps_ndefS (st := s_rlead) (i := 2) rfl TB rfl hm rfl hu (NdefX.ndef_free nd_rlead) rfl rfl rfl sc_rch.nd rfl (.inl rfl) (.inl rfl))
      (pss_cons (ps_set (i := 3) sc_rch.nd rfl (.inr rfl) (pe_callTy (call_dictP rfl) (by rfl) T.m_dict PyProof.Rows.boot_dict (pa_cons (pe_cUp (js := [1]) F_walked.mgf F_walked.kp (fun ok => NdefX.Caps.made (scope := fnScope s_rlead) ok (NdefX.ndef_free nd_rlead) (NdefX.ndef_fr nd_rlead) rfl) (fun _ _ _ => rfl) (up_walked _) hr (Nat.le_refl _) (by rfl) (pa_cons (fldK K (pv 0) rfl) (pa_cons (pe_mt c_m_num hr (by decide) (pv 0) (pa_cons (fldK K (pv 0) rfl) pa_nil)) (pa_cons (pv 2) pa_nil))) (by first | decide | exact (by decide : (["table"] : List Str).Nodup))) pa_nil)))
      (pss_one (ps_ret (pe_callTy (tupleK K) (by rfl) T.m_tuple PyProof.Rows.boot_tuple (pa_cons (pe_lc (own := [("at", 4), ("mark", 5)]) rfl sc_rch.nd (pi_enumX (by rfl) T.m_enumerate (pa_cons (fldK K (pv 0) rfl) pa_nil)) (blkOk_by (N := n_rch) (sc := fnScope s_rch) (by decide +kernel)) (fun _ _ _ _ _ => (tupK K 2 (pgs_cons (pg_name (i := 4) sc_rch.nd rfl (.inl rfl)) (pgs_cons (pg_name (i := 5) sc_rch.nd rfl (.inl rfl)) pgs_nil)))) (fun _ _ _ _ _ => pts_one (pt_cmp (pc_din (hu_of hr) (pv 4) (pv 3)))) (fun _ _ _ _ _ => (pe_tup (pa_cons (pv 5) (pa_cons (pe_dget (hu_of hr) (pv 3) (pv 4) (fun _ _ => rfl)) pa_nil))))) pa_nil)))
      )))), ?_⟩
    obtain ⟨dx, m, st, nu, le, sa, la, co, ca, r, hcol⟩ := id hrd
    have hW := reachR_ok hgd
    refine ⟨_, rfl, a, sg, ms, f, tg, rfl, hrd.to0, hgd, fun tb ra H1 s1 n1 h1 hra => ?_⟩
    refine ⟨hT.ext s1, fun g c' H2 e2 hT2 n2 hg hc' => ?_⟩
    have r2 := (r.ext (extN_same s1)).ext e2
    have htb : TabAt sg ms tg tb ra H2 := ⟨e2 _ _ h1 (by intro _ z; cases z), fun x hx => e2 _ _ (hra x hx) (by intro _ z; cases z)⟩
    refine ⟨_, rfl, a, C, dx, _, _, rfl, r2.ha, CH.cl, CH.nS, rl_signs, ?_⟩
    refine ⟨_, rfl, a, dx, _, rfl, r2.ha, rdr_no (.inr ⟨co, rfl⟩) (by decide +kernel), _, rfl, a, C, dx, _, _, rfl, r2.ha, CH.cl, CH.nF, rl_first, ?_⟩
    refine ⟨a, sg, ms, f, tg, f, rfl, ⟨dx, m, st, nu, le, sa, la, _, .inr ⟨co, rfl⟩, r2⟩, hgd.hnd, hgd.hf, ?_⟩
    refine ⟨_, rfl, _, ⟨sg, ms, f, tg, g, c', tb, ra, hgd, rfl, rfl⟩, ms.idxOf f, rfl, List.idxOf_lt_length_of_mem hgd.hf, ⟨hg, hc', htb⟩, fun p ps H3 s3 n3 h3 hl3 hq3 => ?_⟩
    have e3 : LamX.ExtN H H3 := ((extN_same s1).trans e2).trans (extN_same s3)
    have r3 := r2.ext (extN_same s3)
    refine ⟨p, ps, (reachR sg ms f tg).map fun q => ((Sum.inl (q.1 : Int) : Key), V.str (S q.2)), rfl, SqL.of h3, paired_get (g := fun q : Nat × List Nat => ((Sum.inl (q.1 : Int) : Key), V.str (S q.2))) hl3 fun i a q h1 h2 => SqT.of (hq3 i a q h1 h2), fun d hd => ?_⟩
    rw [merge_th hW]
    have hm4 : (upd H3 d (.dK (thK (reachR sg ms f tg)))) m = some (.tup (txs ms)) := by rw [upd_ne (fun e => by rw [← e, r3.hm] at hd; cases hd)]; exact r3.hm
    have ha4 : (upd H3 d (.dK (thK (reachR sg ms f tg)))) a = some (.ins C dx (rdF sg m f st nu le [("_columns", .ref co)])) := by rw [upd_ne (fun e => by rw [← e, r3.ha] at hd; cases hd)]; exact r3.ha
    have hd4 : (upd H3 d (.dK (thK (reachR sg ms f tg)))) d = some (.dK (thK (reachR sg ms f tg))) := upd_same
    have e4 : LamX.ExtN H (upd H3 d (.dK (thK (reachR sg ms f tg)))) := e3.trans (extN_same (sm_put (Same.refl H3) hd))
    have hT4 : NdefX.TabsN TT (upd H3 d (.dK (thK (reachR sg ms f tg)))) := (hT2.ext s3).ext (sm_put (Same.refl H3) hd)
    generalize upd H3 d (.dK (thK (reachR sg ms f tg))) = H4 at hm4 ha4 hd4 e4 hT4 ⊢
    refine ⟨_, rfl, a, C, dx, _, _, rfl, ha4, CH.cl, CH.nM, rl_marks, ?_⟩
    refine nil1 ⟨.ref m, .tup m, rfl, rfl, ⟨_, SqT.of hm4⟩, fun D hD => ?_⟩
    refine lc_keepF keep_same (walk_enumX (K := K) (S := .tup m) (xs := txs ms)) hD (by rw [txs_len]; exact small1000 (by omega)) (hasR sg ms f tg) (fun i y H => ∃ t, y = .ref t ∧ H t = some (.tup [.str (S (ms.getD i [])), .str (S (rowR sg ms f tg i))]))
      (fun H r => SqT.of (r _ _ hm4)) (fun _ _ _ _ _ r ⟨t, e, h⟩ => ⟨t, e, r _ _ h⟩) (fun _ _ _ _ _ _ hDa ⟨t, e, h⟩ => ⟨t, e, by rw [upd_ne (ne_of h hDa (by intro h; cases h))]; exact h⟩) (fun i x H5 H6 acc N R hi r5 hDa hy hR hN => ?_) (fun ys H5 hly hg r5 hDs => ?_)
    · obtain ⟨t, x1, x2, rfl, ht, rfl, e1, e2⟩ := hy
      obtain rfl : V.int (i : Nat) = x1 := Option.some.inj e1
      obtain ⟨mm, hmm, rfl⟩ := txs_get (show (txs ms)[i]? = some x2 from e2)
      refine ⟨t, _, rfl, .inl (.inl upd_same), rfl, _, _, rfl, _, _, rfl, rfl, rfl, ?_⟩
      have hd6 : (upd H5 t (.tup [.int (i : Nat), .str (S mm)])) d = some (.dK (thK (reachR sg ms f tg))) := by rw [upd_ne (fun e => by rw [← e, r5 _ _ hd4] at ht; cases ht)]; exact r5 _ _ hd4
      refine ⟨_, rfl, _, rfl, d, valV (thK (reachR sg ms f tg)) (Sum.inl (i : Int)), rfl, .inl ⟨_, _, .inl hd6, rfl, rfl⟩, _, rfl, ?_⟩
      by_cases hin : i ∈ (reachR sg ms f tg).map (·.1)
      · have hv := thK_some hW.nd (lookup_in hin)
        rw [hv]
        refine ⟨_, rfl, _, rfl, _, rfl, d, _, rfl, .inl ⟨_, Sum.inl (i : Int), .inl hd6, rfl, hv.symm⟩, (by show 2 ≤ sizeLine; decide), fun t2 ht2 => ?_⟩
        exact hR (decide_eq_true hin) _ _ ((sm_new ht).trans (sm_new ht2)) ⟨t2, rfl, by rw [getD_of hmm]; exact upd_same⟩
      · rw [thK_none hin]
        exact hN (decide_eq_false hin) _ (sm_new ht)
    · rw [txs_len] at hly hg
      obtain ⟨qs, rfl⟩ := refs_of (ys := ys) fun j y e => by
        have hj : j < (takenN (hasR sg ms f tg) ms.length).length := by rw [← hly]; exact (List.getElem?_eq_some_iff.mp e).1
        obtain ⟨t, e', _⟩ := hg j _ y (List.getElem?_eq_getElem hj) e
        exact ⟨t, e'⟩
      refine ⟨D, _, rfl, .inl ⟨SqL.of hDs, fun l hl => ?_⟩⟩
      have s6 : Same H5 (upd H5 l (.tup (qs.map V.ref))) := sm_put (Same.refl H5) hl
      refine k l qs _ ((e4.trans (extN_same r5)).trans (extN_same s6)) ((hT4.ext r5).ext s6) upd_same ?_ fun i a q h1 h2 => ?_
      · unfold pairsR; rw [List.length_map, ← hly, List.length_map]
      · unfold pairsR at h2
        rw [List.getElem?_map] at h2
        cases ek : (takenN (hasR sg ms f tg) ms.length)[i]? with
        | none => rw [ek] at h2; cases h2
        | some kk =>
          rw [ek] at h2
          obtain rfl := Option.some.inj h2
          obtain ⟨t, e', h⟩ := hg i kk (.ref a) ek (by rw [List.getElem?_map, h1]; rfl)
          cases e'
          exact s6 _ _ h
end
end Toy
set_option maxHeartbeats 2000000
namespace Toy
open PySem L2 C8 SX LX
section
variable {P : Program} {w : World} {K : PySem.W.Frag} {mg : Str → Option Value} {base : Heap}
abbrev s_made : Stmt := top 35
abbrev n_made : List Str := ["told", "steps", "mark", "sign"]
theorem sc_made : FnScope n_made ["told"] (fnScope s_made) := fnScope_by (by decide +kernel)
abbrev ncs_made : Scope := relS (outS (ofRet ((fnBody s_made).getD 0 (.Pass ⟨0, 0, 0, 0⟩)))) (fnScope s_made)
def spMade (C : Addr) : Sp := fun vs H Q _ => ∃ (a : Addr) (sg : List Nat) (ms : List (List Nat)) (f : List Nat) (tg : List Nat → Nat → List Nat) (pm pl : Addr) (ad : List Nat → Addr), vs = [.ref a] ∧ Told H a sg ms f tg pm pl ad ∧ Good sg ms f tg ∧
  ∀ (p : Addr) (H' : Hp), Same H H' → H p = none → Rdr C H' p sg ms f tg → Q (.ref p) H'
def StepsAt (sg : List Nat) (ms : List (List Nat)) (tg : List Nat → Nat → List Nat) (D : Addr) (sa : List Nat → Addr) (H : Hp) : Prop := H D = some (.lst (ms.map fun x => .ref (sa x))) ∧ ∀ x ∈ ms, H (sa x) = some (.lst (txs (sg.map (tg x))))
theorem ok_made {C : Addr} (T : BT mg) (CH : CR K C) (mgC : mg "Reader" = some (.ref C)) (c_Reader : Mak P w K mg base 5 "Reader" C (spInit C) []) {f : Addr} {fd : FuncData} (F : Def K mg "_law_made" s_made f fd) (b : Binds K fd ["told"] []) : Cal P w K mg base 7 "_law_made" (spMade C) [] := by
  refine cal0 F b .nil sc_made (fun vs H Q E h => ?_) (fun cdv A outer s H vs Q E hr h => ?_)
  · obtain ⟨a, sg, ms, f, tg, pm, pl, ad, rfl, _⟩ := h; rfl
  · obtain ⟨a, sg, ms, f, tg, pm, pl, ad, rfl, t, hgd, k⟩ := h
    have h8 := hgd.h8
    refine ⟨_, (pss_cons (ps_setLc (i := 1) (own := [("mark", 2)]) rfl sc_made.nd rfl rfl rfl (pi_list (pe_dget (hu_of hr) (pv 0) pe_str (fun _ _ => rfl))) (blkOk_by (N := n_made) (sc := fnScope s_made) (by decide +kernel)) (fun _ _ _ _ _ => (pg_name (i := 2) sc_made.nd rfl (.inr rfl))) (fun _ _ _ _ _ => pts_nil) (fun _ _ _ _ _ => (pe_lc (own := [("sign", 3)]) rfl sc_made.nd (pi_str (pe_dget (hu_of hr) (pv 0) pe_str (fun _ _ => rfl))) (blkOk_by (N := n_made) (sc := ncs_made) (by decide +kernel)) (fun _ _ _ _ _ => (pg_name (i := 3) sc_made.nd rfl (.inl rfl))) (fun _ _ _ _ _ => pts_nil) (fun _ _ _ _ _ => (pe_dget (hu_of hr) (pe_dget (hu_of hr) (pe_dget (hu_of hr) (pv 0) pe_str (fun _ _ => rfl)) (pv 2) (fun _ _ => rfl)) (pv 3) (fun _ _ => rfl))))))
      (pss_one (ps_ret (pe_mk c_Reader hr (by decide) (by rfl) (pa_cons (pe_dget (hu_of hr) (pv 0) pe_str (fun _ _ => rfl)) (pa_cons (pe_dget (hu_of hr) (pv 0) pe_str (fun _ _ => rfl)) (pa_cons (pe_dget (hu_of hr) (pv 0) pe_str (fun _ _ => rfl)) (pa_cons (pv 1) pa_nil))))))
      )), ?_⟩
    refine ⟨_, rfl, _, _, rfl, t.marks, pm, rfl, ⟨_, SqL.of t.hpm⟩, fun D hD => ?_⟩
    refine lc_keepH keep_same (walk_list (K := K) (a := pm) (xs := txs ms)) hD (by rw [txs_len]; exact small1000 (by omega)) (fun j y H => ∃ p, y = .ref p ∧ p ≠ D ∧ ∀ mm, ms[j]? = some mm → H p = some (.lst (txs (sg.map (tg mm))))) (fun H r => SqL.of (r _ _ t.hpm))
      (fun _ _ _ _ _ r1 ⟨p, e, n, h⟩ => ⟨p, e, n, fun mm hm => r1 _ _ (h mm hm)⟩) (fun _ _ _ _ _ _ _ ⟨p, e, n, h⟩ => ⟨p, e, n, fun mm hm => by rw [upd_ne n]; exact h mm hm⟩) (fun i x H2 H2' acc R hi r2 hDa hy hR => ?_) (fun ys H2 hly hg r2 hDs => ?_)
    · obtain ⟨rfl, e⟩ := hy
      obtain ⟨mm, em, rfl⟩ := txs_get e
      have hmem := List.mem_of_getElem? em
      have t2 := t.same r2
      refine ⟨rfl, ?_⟩
      refine ⟨_, rfl, _, _, rfl, t2.signs, S sg, rfl, fun D2 hD2 => lc_keep keep_same walk_str hD2 (by show sg.length < sizeLine; exact small1000 (by have := hgd.hsg.2.2.1; omega)) (fun j y => ∀ c, sg[j]? = some c → y = .str (S (tg mm c))) (fun _ _ => trivial) (fun j z H3 H4 R2 hj r3 hy hR2 => ?_) (fun zs H3 hlz hgz r3 hDz => ?_)⟩
      · obtain ⟨rfl, c, hc, rfl⟩ := hy
        have hc' : sg[j]? = some c := by simpa [S] using hc
        have t3 := t2.same r3
        refine ⟨rfl, ?_⟩
        refine ⟨_, rfl, _, _, rfl, t3.leads, ?_⟩
        refine ⟨_, rfl, _, _, rfl, t3.mark hmem, ?_⟩
        refine ⟨_, rfl, _, _, rfl, t3.at_ hmem (List.mem_of_getElem? hc'), ?_⟩
        exact hR2 _ _ (Same.refl _) fun c' h => by rw [Option.some.inj (hc'.symm.trans h)]
      · have ez : zs = txs (sg.map (tg mm)) := by
          unfold txs; rw [List.map_map]
          exact list_map hlz fun j y c e1 e2 => hgz j y e1 c e2
        subst ez
        have nD : D2 ≠ D := fun e => by rw [e, hDa] at hD2; cases hD2
        exact hR _ _ r3 ⟨D2, rfl, nD, fun m2 h2 => by rw [em] at h2; cases h2; exact hDz⟩
    rw [txs_len] at hly
    obtain ⟨sa, hsa⟩ := fun_of (γ := Addr) hgd.hnd (P := fun j mm t => ys[j]? = some (V.ref t) ∧ H2 t = some (.lst (txs (sg.map (tg mm))))) fun j mm hj => by
      have hjl : j < ys.length := by rw [hly]; exact (List.getElem?_eq_some_iff.mp hj).1
      obtain ⟨t, e, _, h⟩ := hg j _ (List.getElem?_eq_getElem hjl)
      exact ⟨t, by rw [List.getElem?_eq_getElem hjl, e], h mm hj⟩
    have eys : ys = ms.map fun x => V.ref (sa x) := list_map hly fun j y x e1 e2 => by have := (hsa j x e2).1; rw [e1] at this; exact Option.some.inj this
    subst eys
    have hsa2 : ∀ x ∈ ms, H2 (sa x) = some (.lst (txs (sg.map (tg x)))) := fun x hx => by obtain ⟨j, hj⟩ := List.getElem?_of_mem hx; exact (hsa j x hj).2
    have t2 := t.same r2
    refine ⟨_, rfl, _, _, rfl, t2.signs, _, rfl, _, _, rfl, t2.marks, _, rfl, _, _, rfl, t2.first, _, rfl, fun p dx hp hdx hne => ?_⟩
    have hpx : ∀ b o, H2 b = some o → b ≠ p ∧ b ≠ dx := fun b o e => ⟨fun z => (by rw [← z, e] at hp; cases hp), fun z => (by rw [← z, e] at hdx; cases hdx)⟩
    have kp : ∀ b o, H2 b = some o → (upd (upd H2 dx (.own p)) p (.ins C dx [])) b = some o := fun b o e => by rw [upd_ne (hpx b o e).1, upd_ne (hpx b o e).2]; exact e
    refine ⟨p, dx, pm, D, true, true, true, sg, ms, f, tg, sa, rfl, upd_same, kp _ _ t2.hpm, kp _ _ hDs, fun x hx => kp _ _ (hsa2 x hx), hgd, fun H' hk hr => ⟨rfl, k p H' (fun b o e => ?_) ?_ hr⟩⟩
    · have e2 := r2 _ _ e
      exact hk b o (hpx b o e2).1 (kp b o e2)
    · cases e : H p with
      | none => rfl
      | some o => exact absurd rfl (hpx p o (r2 _ _ e)).1
end
end Toy
set_option maxHeartbeats 2000000
namespace Toy
open PySem L2 C8 SX LX
def keysW (L : WL) : List Nat := L.map (·.1)
def ins (L : WL) (q : Nat × List Nat) : WL := if q.1 ∈ keysW L then L else L ++ [q]
theorem keys_app (A B : WL) : keysW (A ++ B) = keysW A ++ keysW B := List.map_append
theorem ins_in {L : WL} {q : Nat × List Nat} (h : q.1 ∈ keysW L) : ins L q = L := if_pos h
theorem ins_out {L : WL} {q : Nat × List Nat} (h : q.1 ∉ keysW L) : ins L q = L ++ [q] := if_neg h
theorem ins_ext : ∀ (qs : WL) (L : WL), ∃ e, qs.foldl ins L = L ++ e
  | [], L => ⟨[], (List.append_nil L).symm⟩
  | q :: qs, L => by
    show ∃ e, qs.foldl ins (ins L q) = L ++ e
    by_cases h : q.1 ∈ keysW L
    · rw [ins_in h]; exact ins_ext qs L
    · rw [ins_out h]
      obtain ⟨e, he⟩ := ins_ext qs (L ++ [q])
      exact ⟨q :: e, by rw [he, List.append_assoc]; rfl⟩
theorem ins_noop : ∀ (qs : WL) (L : WL), (∀ q ∈ qs, q.1 ∈ keysW L) → qs.foldl ins L = L
  | [], _, _ => rfl
  | q :: qs, L, h => by
    show qs.foldl ins (ins L q) = L
    unfold ins
    rw [if_pos (h q List.mem_cons_self)]
    exact ins_noop qs L fun p hp => h p (List.mem_cons_of_mem _ hp)
theorem ins_all : ∀ (qs : WL) (L : WL) (q), q ∈ qs → q.1 ∈ keysW (qs.foldl ins L)
  | p :: qs, L, q, h => by
    show q.1 ∈ keysW (qs.foldl ins (ins L p))
    rcases List.mem_cons.mp h with e | e
    · subst e
      obtain ⟨e, he⟩ := ins_ext qs (ins L q)
      rw [he, keys_app]
      refine List.mem_append_left _ ?_
      unfold ins
      by_cases h : q.1 ∈ keysW L
      · rw [if_pos h]; exact h
      · rw [if_neg h, keys_app]; exact List.mem_append_right _ List.mem_cons_self
    · exact ins_all qs _ q e
section
variable (lc : Nat → Nat → Nat) (sg : List Nat) (b : Nat)
def stepW (L : WL) (q : Nat × List Nat) : WL := (sg.map fun c => (lc q.1 c, q.2 ++ [c])).foldl ins L
def bfs : Nat → Nat → WL → WL
  | 0, _, L => L
  | n + 1, at_, L => match L[at_]? with
    | none => L
    | some q => bfs n (at_ + 1) (stepW lc sg L q)
def wd (v : List Nat) : Nat := v.foldl lc b
def insAll (L : WL) (vs : List (List Nat)) : WL := (vs.map fun v => (wd lc b v, v)).foldl ins L
def goV (L : WL) (vs : List (List Nat)) : WL := vs.foldl (fun L v => stepW lc sg L (wd lc b v, v)) L
def newW : WL → List (List Nat) → WL
  | _, [] => []
  | A, v :: vs => if wd lc b v ∈ keysW A then newW A vs else (wd lc b v, v) :: newW (A ++ [(wd lc b v, v)]) vs
def Cl (L : WL) (k : Nat) : Prop := ∀ (j : Nat) (q : Nat × List Nat), j < k → L[j]? = some q → ∀ c ∈ sg, lc q.1 c ∈ keysW L
end
section
variable {lc : Nat → Nat → Nat} {sg : List Nat} {b : Nat}
theorem wd_snoc (v : List Nat) (c : Nat) : wd lc b (v ++ [c]) = lc (wd lc b v) c := by unfold wd; rw [List.foldl_append]; rfl
theorem insAll_new : ∀ (vs : List (List Nat)) (A : WL), insAll lc b A vs = A ++ newW lc b A vs
  | [], A => (List.append_nil A).symm
  | v :: vs, A => by
    show insAll lc b (ins A (wd lc b v, v)) vs = A ++ newW lc b A (v :: vs)
    unfold ins newW
    by_cases h : wd lc b v ∈ keysW A
    · rw [if_pos h, if_pos h]; exact insAll_new vs A
    · rw [if_neg h, if_neg h, insAll_new vs, List.append_assoc]; rfl
theorem insAll_app (L : WL) (vs ws : List (List Nat)) : insAll lc b L (vs ++ ws) = insAll lc b (insAll lc b L vs) ws := by unfold insAll; rw [List.map_append, List.foldl_append]
theorem insAll_next (L : WL) : ∀ vs : List (List Nat), insAll lc b L (vs.flatMap fun r => sg.map fun c => r ++ [c]) = goV lc sg b L vs := by
  intro vs
  induction vs generalizing L with
  | nil => rfl
  | cons v vs ih =>
    rw [List.flatMap_cons, insAll_app, ih]
    show goV lc sg b (insAll lc b L (sg.map fun c => v ++ [c])) vs = goV lc sg b (stepW lc sg L (wd lc b v, v)) vs
    have : insAll lc b L (sg.map fun c => v ++ [c]) = stepW lc sg L (wd lc b v, v) := by
      unfold insAll stepW
      rw [List.map_map]
      congr 1
      exact List.map_congr_left fun c _ => by show (wd lc b (v ++ [c]), v ++ [c]) = _; rw [wd_snoc]
    rw [this]
theorem step_noop {L : WL} {q : Nat × List Nat} (h : ∀ c ∈ sg, lc q.1 c ∈ keysW L) : stepW lc sg L q = L := by
  unfold stepW
  refine ins_noop _ _ fun p hp => ?_
  obtain ⟨c, hc, rfl⟩ := List.mem_map.mp hp
  exact h c hc
theorem step_all {L : WL} {q : Nat × List Nat} : ∀ c ∈ sg, lc q.1 c ∈ keysW (stepW lc sg L q) := fun c hc => ins_all _ L (lc q.1 c, q.2 ++ [c]) (List.mem_map.mpr ⟨c, hc, rfl⟩)
theorem key_at {L : WL} {x : Nat} (h : x ∈ keysW L) : ∃ (j : Nat) (q : Nat × List Nat), L[j]? = some q ∧ q.1 = x := by
  obtain ⟨q, hq, e⟩ := List.mem_map.mp h
  obtain ⟨j, hj⟩ := List.getElem?_of_mem hq
  exact ⟨j, q, hj, e⟩
theorem lt_of_at {α : Type} {L : List α} {j : Nat} {q : α} (h : L[j]? = some q) : j < L.length := (List.getElem?_eq_some_iff.mp h).1
theorem walk_level : ∀ (vs : List (List Nat)) (A rest M : WL), M = A ++ newW lc b A vs ++ rest → Cl lc sg M A.length →
    Cl lc sg (goV lc sg b M vs) (A.length + (newW lc b A vs).length) ∧ ∀ n, bfs lc sg (n + (newW lc b A vs).length) A.length M = bfs lc sg n (A.length + (newW lc b A vs).length) (goV lc sg b M vs)
  | [], A, rest, M, hM, hc => ⟨hc, fun n => rfl⟩
  | v :: vs, A, rest, M, hM, hc => by
    show Cl lc sg (goV lc sg b (stepW lc sg M (wd lc b v, v)) vs) _ ∧ ∀ n, _ = bfs lc sg n _ (goV lc sg b (stepW lc sg M (wd lc b v, v)) vs)
    by_cases h : wd lc b v ∈ keysW A
    · have e : newW lc b A (v :: vs) = newW lc b A vs := by show (if _ then _ else _) = _; rw [if_pos h]
      rw [e] at hM ⊢
      have : stepW lc sg M (wd lc b v, v) = M := by
        refine step_noop fun c hcs => ?_
        obtain ⟨j, q, hj, eq⟩ := key_at h
        have hl := lt_of_at hj
        have hjM : M[j]? = some q := by rw [hM, List.append_assoc, List.getElem?_append_left hl]; exact hj
        show lc (wd lc b v) c ∈ keysW M
        rw [← eq]
        exact hc j q hl hjM c hcs
      rw [this]
      exact walk_level vs A rest M hM hc
    · have e : newW lc b A (v :: vs) = (wd lc b v, v) :: newW lc b (A ++ [(wd lc b v, v)]) vs := by show (if _ then _ else _) = _; rw [if_neg h]
      rw [e] at hM ⊢
      obtain ⟨e1, he1⟩ := ins_ext (sg.map fun c => (lc (wd lc b v) c, v ++ [c])) M
      have hM1 : stepW lc sg M (wd lc b v, v) = (A ++ [(wd lc b v, v)]) ++ newW lc b (A ++ [(wd lc b v, v)]) vs ++ (rest ++ e1) := by
        show (sg.map fun c => (lc (wd lc b v) c, v ++ [c])).foldl ins M = _
        rw [he1, hM]; simp
      have hat : M[A.length]? = some (wd lc b v, v) := by rw [hM, List.append_assoc, List.getElem?_append_right (Nat.le_refl _), Nat.sub_self]; rfl
      have hcl : Cl lc sg (stepW lc sg M (wd lc b v, v)) (A ++ [(wd lc b v, v)]).length := fun j q hj hq c hcs => by
        rw [List.length_append, List.length_singleton] at hj
        have hsub : ∀ x, x ∈ keysW M → x ∈ keysW (stepW lc sg M (wd lc b v, v)) := fun x hx => by
          show x ∈ keysW ((sg.map fun c => (lc (wd lc b v) c, v ++ [c])).foldl ins M)
          rw [he1, keys_app]; exact List.mem_append_left _ hx
        have hML : j < M.length := by have := lt_of_at hat; omega
        have hqM : M[j]? = some q := by
          have : (stepW lc sg M (wd lc b v, v))[j]? = M[j]? := by
            show ((sg.map fun c => (lc (wd lc b v) c, v ++ [c])).foldl ins M)[j]? = _
            rw [he1, List.getElem?_append_left hML]
          rw [← this]; exact hq
        rcases Nat.lt_or_ge j A.length with z | z
        · exact hsub _ (hc j q z hqM c hcs)
        · have ej : j = A.length := by omega
          rw [ej, hat] at hqM
          obtain rfl := Option.some.inj hqM
          exact step_all c hcs
      obtain ⟨c1, w1⟩ := walk_level vs (A ++ [(wd lc b v, v)]) (rest ++ e1) _ hM1 hcl
      rw [List.length_append, List.length_singleton] at c1 w1
      have el : A.length + ((wd lc b v, v) :: newW lc b (A ++ [(wd lc b v, v)]) vs).length = A.length + 1 + (newW lc b (A ++ [(wd lc b v, v)]) vs).length := by rw [List.length_cons]; omega
      rw [el]
      refine ⟨c1, fun n => ?_⟩
      rw [← w1 n]
      show bfs lc sg (n + (newW lc b (A ++ [(wd lc b v, v)]) vs).length + 1) A.length M = _
      show (match M[A.length]? with | none => M | some q => bfs lc sg (n + (newW lc b (A ++ [(wd lc b v, v)]) vs).length) (A.length + 1) (stepW lc sg M q)) = _
      rw [hat]
theorem walk_upto : ∀ k : Nat, ∃ A : WL, insAll lc b [] (upto sg k) = A ++ newW lc b A (level sg k) ∧ Cl lc sg (insAll lc b [] (upto sg k)) A.length ∧ ∀ n, bfs lc sg (n + A.length) 0 [(b, [])] = bfs lc sg n A.length (insAll lc b [] (upto sg k))
  | 0 => ⟨[], insAll_new _ _, fun j q h => absurd h (Nat.not_lt_zero _), fun n => rfl⟩
  | k + 1 => by
    obtain ⟨A, hA, hc, hw⟩ := walk_upto k
    have e : insAll lc b [] (upto sg (k + 1)) = goV lc sg b (insAll lc b [] (upto sg k)) (level sg k) := by
      show insAll lc b [] (upto sg k ++ level sg (k + 1)) = _
      rw [insAll_app]
      exact insAll_next _ _
    obtain ⟨c1, w1⟩ := walk_level (lc := lc) (sg := sg) (b := b) (level sg k) A [] _ (by rw [hA, List.append_nil]) hc
    have el : (insAll lc b [] (upto sg k)).length = A.length + (newW lc b A (level sg k)).length := by rw [hA, List.length_append]
    refine ⟨insAll lc b [] (upto sg k), ?_, ?_, fun n => ?_⟩
    · show insAll lc b [] (upto sg k ++ level sg (k + 1)) = _
      rw [insAll_app, insAll_new (level sg (k + 1))]
    · rw [e, el]; exact c1
    · rw [e, el, ← w1 n, ← hw]; congr 1; omega
theorem walk_cl (k : Nat) : Cl lc sg (insAll lc b [] (upto sg (k + 1))) (insAll lc b [] (upto sg k)).length := by
  obtain ⟨A, hA, hc, _⟩ := walk_upto (lc := lc) (sg := sg) (b := b) k
  have e : insAll lc b [] (upto sg (k + 1)) = goV lc sg b (insAll lc b [] (upto sg k)) (level sg k) := by
    show insAll lc b [] (upto sg k ++ level sg (k + 1)) = _
    rw [insAll_app]
    exact insAll_next _ _
  obtain ⟨c1, _⟩ := walk_level (lc := lc) (sg := sg) (b := b) (level sg k) A [] _ (by rw [hA, List.append_nil]) hc
  have el : (insAll lc b [] (upto sg k)).length = A.length + (newW lc b A (level sg k)).length := by rw [hA, List.length_append]
  rw [e, el]; exact c1
theorem closed_all {L : WL} (h : Cl lc sg L L.length) {x : Nat} (hx : x ∈ keysW L) {c : Nat} (hc : c ∈ sg) : lc x c ∈ keysW L := by
  obtain ⟨j, q, hj, e⟩ := key_at hx
  rw [← e]
  exact h j q (lt_of_at hj) hj c hc
theorem closed_wd {L : WL} (h : Cl lc sg L L.length) : ∀ (v : List Nat) (x : Nat), x ∈ keysW L → Ov sg v → v.foldl lc x ∈ keysW L
  | [], _, hx, _ => hx
  | c :: v, x, hx, ho => closed_wd h v _ (closed_all h hx (ho c List.mem_cons_self)) fun d hd => ho d (List.mem_cons_of_mem _ hd)
theorem closed_ins {L : WL} (h : Cl lc sg L L.length) (hb : b ∈ keysW L) {vs : List (List Nat)} (hv : ∀ v ∈ vs, Ov sg v) : insAll lc b L vs = L := by
  unfold insAll
  refine ins_noop _ _ fun q hq => ?_
  obtain ⟨v, hv', rfl⟩ := List.mem_map.mp hq
  exact closed_wd h v b hb (hv v hv')
theorem closed_bfs {L : WL} (h : Cl lc sg L L.length) : ∀ n at_, bfs lc sg n at_ L = L
  | 0, _ => rfl
  | n + 1, at_ => by
    show (match L[at_]? with | none => L | some q => bfs lc sg n (at_ + 1) (stepW lc sg L q)) = L
    cases e : L[at_]? with
    | none => rfl
    | some q =>
      show bfs lc sg n (at_ + 1) (stepW lc sg L q) = L
      rw [step_noop fun c hc => h at_ q (lt_of_at e) e c hc]
      exact closed_bfs h n _
theorem ins_wok {N : Nat} : ∀ (qs : WL) (L : WL), (keysW L).Nodup → (∀ x ∈ keysW L, x < N) → (∀ q ∈ qs, q.1 < N) → (keysW (qs.foldl ins L)).Nodup ∧ ∀ x ∈ keysW (qs.foldl ins L), x < N
  | [], L, h1, h2, _ => ⟨h1, h2⟩
  | q :: qs, L, h1, h2, h3 => by
    show (keysW (qs.foldl ins (ins L q))).Nodup ∧ _
    show _ ∧ ∀ x ∈ keysW (qs.foldl ins (ins L q)), x < N
    by_cases h : q.1 ∈ keysW L
    · rw [ins_in h]; exact ins_wok qs L h1 h2 fun p hp => h3 p (List.mem_cons_of_mem _ hp)
    · rw [ins_out h]
      refine ins_wok qs _ ?_ ?_ fun p hp => h3 p (List.mem_cons_of_mem _ hp)
      · rw [keys_app, List.nodup_append]
        refine ⟨h1, by unfold keysW; simp, fun a ha b hb e => ?_⟩
        have : b = q.1 := by unfold keysW at hb; simpa using hb
        subst this; subst e; exact h ha
      · intro x hx
        rw [keys_app] at hx
        rcases List.mem_append.mp hx with z | z
        · exact h2 x z
        · have : x = q.1 := by unfold keysW at z; simpa using z
          rw [this]; exact h3 q List.mem_cons_self
theorem upto_ov : ∀ {k : Nat} {v : List Nat}, v ∈ upto sg k → Ov sg v
  | 0, v, h => by
    have : v = [] := by simpa [upto] using h
    rw [this]; intro c hc; cases hc
  | k + 1, v, h => by
    rcases List.mem_append.mp (show v ∈ upto sg k ++ level sg (k + 1) from h) with z | z
    · exact upto_ov z
    · exact (level_row z).2
theorem wd_lt {N : Nat} (hl : ∀ t c, t < N → c ∈ sg → lc t c < N) : ∀ (v : List Nat) (x : Nat), x < N → Ov sg v → v.foldl lc x < N
  | [], _, hx, _ => hx
  | c :: v, x, hx, ho => wd_lt hl v _ (hl x c hx (ho c List.mem_cons_self)) fun d hd => ho d (List.mem_cons_of_mem _ hd)
theorem full_closed {N : Nat} (hl : ∀ t c, t < N → c ∈ sg → lc t c < N) {L : WL} (h1 : (keysW L).Nodup) (h2 : ∀ x ∈ keysW L, x < N) (h3 : N ≤ L.length) : Cl lc sg L L.length := fun j q hj hq c hc => by
  have hlen : (keysW L).length = L.length := List.length_map _
  have hqN : q.1 < N := h2 _ (List.mem_map.mpr ⟨q, List.mem_of_getElem? hq, rfl⟩)
  have hN := hl q.1 c hqN hc
  by_cases hin : lc q.1 c ∈ keysW L
  · exact hin
  · have := nodup_len N (lc q.1 c :: keysW L) (List.nodup_cons.mpr ⟨hin, h1⟩) fun x hx => by
      rcases List.mem_cons.mp hx with e | e
      · rw [e]; exact hN
      · exact h2 x e
    rw [List.length_cons, hlen] at this
    omega
theorem upto_closed {N : Nat} (hN : N ≤ 4) (hb : b < N) (hl : ∀ t c, t < N → c ∈ sg → lc t c < N) : Cl lc sg (insAll lc b [] (upto sg 3)) (insAll lc b [] (upto sg 3)).length ∧ (insAll lc b [] (upto sg 3)).length ≤ N := by
  have wok : ∀ k, (keysW (insAll lc b [] (upto sg k))).Nodup ∧ ∀ x ∈ keysW (insAll lc b [] (upto sg k)), x < N := fun k => by
    refine ins_wok _ [] (by unfold keysW; simp) (by unfold keysW; simp) fun q hq => ?_
    obtain ⟨v, hv, rfl⟩ := List.mem_map.mp hq
    exact wd_lt hl v b hb (upto_ov hv)
  have grow : ∀ k, b ∈ keysW (insAll lc b [] (upto sg k)) ∧ (Cl lc sg (insAll lc b [] (upto sg k)) (insAll lc b [] (upto sg k)).length ∨ k + 1 ≤ (insAll lc b [] (upto sg k)).length) := by
    intro k
    induction k with
    | zero => exact ⟨List.mem_cons_self, .inr (Nat.le_refl _)⟩
    | succ k ih =>
      have e : insAll lc b [] (upto sg (k + 1)) = insAll lc b (insAll lc b [] (upto sg k)) (level sg (k + 1)) := insAll_app _ _ _
      have e2 := insAll_new (lc := lc) (b := b) (level sg (k + 1)) (insAll lc b [] (upto sg k))
      refine ⟨by rw [e, e2, keys_app]; exact List.mem_append_left _ ih.1, ?_⟩
      rcases ih.2 with h | h
      · left
        rw [e, closed_ins h ih.1 fun v hv => (level_row hv).2]; exact h
      · cases en : newW lc b (insAll lc b [] (upto sg k)) (level sg (k + 1)) with
        | nil =>
          left
          rw [en, List.append_nil] at e2
          have c1 := walk_cl (lc := lc) (sg := sg) (b := b) k
          rw [e, e2] at c1 ⊢
          exact c1
        | cons q qs =>
          right
          rw [e, e2, en, List.length_append, List.length_cons]; omega
  have hlen : (insAll lc b [] (upto sg 3)).length ≤ N := by
    have := nodup_len N _ (wok 3).1 (wok 3).2
    unfold keysW at this
    rwa [List.length_map] at this
  refine ⟨?_, hlen⟩
  rcases (grow 3).2 with h | h
  · exact h
  · exact full_closed hl (wok 3).1 (wok 3).2 (by omega)
theorem inn_ins {lead : Nat → Nat → Nat} {t : Nat} {r : List Nat} : ∀ (cs : List Nat) (i : Nat) (L : WL), (∀ (j : Nat) c, cs[j]? = some c → lead t (i + j) = lc t c) → inn lead (fun _ => false) t r i cs L = (cs.map fun c => (lc t c, r ++ [c])).foldl ins L
  | [], _, _, _ => rfl
  | c :: cs, i, L, h => by
    have h0 : lead t i = lc t c := h 0 c rfl
    have ih : ∀ L, inn lead (fun _ => false) t r (i + 1) cs L = (cs.map fun c => (lc t c, r ++ [c])).foldl ins L := fun L => inn_ins cs (i + 1) L fun j d hd => by have := h (j + 1) d hd; rw [← this]; congr 1; omega
    show (if lead t i ∈ L.map (·.1) then inn lead (fun _ => false) t r (i + 1) cs L else if false = true then _ else inn lead (fun _ => false) t r (i + 1) cs (L ++ [(lead t i, r ++ [c])])) = (cs.map fun c => (lc t c, r ++ [c])).foldl ins (ins L (lc t c, r ++ [c]))
    rw [h0, ih, ih, if_neg Bool.false_ne_true]
    by_cases hin : lc t c ∈ L.map (·.1)
    · rw [if_pos hin, ins_in (show (lc t c, r ++ [c]).1 ∈ keysW L from hin)]
    · rw [if_neg hin, ins_out (show (lc t c, r ++ [c]).1 ∉ keysW L from hin)]
theorem outW_bfs {lead : Nat → Nat → Nat} (h : ∀ (t j : Nat) c, sg[j]? = some c → lead t j = lc t c) : ∀ (n at_ : Nat) (L : WL), outW lead (fun _ => false) sg n at_ L = bfs lc sg n at_ L
  | 0, _, _ => rfl
  | n + 1, at_, L => by
    show (match L[at_]? with | none => L | some (t, r) => if false = true then L else outW lead (fun _ => false) sg n (at_ + 1) (inn lead (fun _ => false) t r 0 sg L)) = (match L[at_]? with | none => L | some q => bfs lc sg n (at_ + 1) (stepW lc sg L q))
    cases e : L[at_]? with
    | none => rfl
    | some q =>
      obtain ⟨t, r⟩ := q
      show (if false = true then L else outW lead (fun _ => false) sg n (at_ + 1) (inn lead (fun _ => false) t r 0 sg L)) = bfs lc sg n (at_ + 1) (stepW lc sg L (t, r))
      rw [if_neg Bool.false_ne_true, outW_bfs h n, inn_ins (lc := lc) sg 0 L fun j c hc => by rw [Nat.zero_add]; exact h t j c hc]
      rfl
theorem walkR_rows {lead : Nat → Nat → Nat} {N : Nat} (hN : N ≤ 4) (hb : b < N) (hl : ∀ t c, t < N → c ∈ sg → lc t c < N) (h : ∀ (t j : Nat) c, sg[j]? = some c → lead t j = lc t c) : walkR lead (fun _ => false) sg N b = insAll lc b [] (upto sg 3) := by
  obtain ⟨c1, c2⟩ := upto_closed (sg := sg) hN hb hl
  obtain ⟨A, hA, _, hw⟩ := walk_upto (lc := lc) (sg := sg) (b := b) 3
  have hle : A.length ≤ N := Nat.le_trans (by rw [hA, List.length_append]; exact Nat.le_add_right _ _) c2
  unfold walkR
  rw [outW_bfs h]
  have := hw (N + 1 - A.length)
  rw [show N + 1 - A.length + A.length = N + 1 by omega] at this
  rw [this]
  exact closed_bfs c1 _ _
end
end Toy
set_option maxHeartbeats 2000000
namespace Toy
open PySem L2 C8 SX LX
section
variable {P : Program} {w : World} {K : PySem.W.Frag} {mg : Str → Option Value} {base : Heap}
abbrev s_reached : Stmt := top 39
abbrev n_reached : List Str := ["told", "found", "row", "mark"]
theorem sc_reached : FnScope n_reached ["told"] (fnScope s_reached) := fnScope_by (by decide +kernel)
def lcT (ms : List (List Nat)) (tg : List Nat → Nat → List Nat) (t c : Nat) : Nat := ms.idxOf (tg (ms.getD t []) c)
theorem getD_idx {ms : List (List Nat)} {m : List Nat} (h : m ∈ ms) : ms.getD (ms.idxOf m) [] = m := by
  have hl := List.idxOf_lt_length_of_mem h
  rw [List.getD_eq_getElem?_getD, List.getElem?_eq_getElem hl, Option.getD_some, List.getElem_idxOf]
theorem wd_led {sg : List Nat} {ms : List (List Nat)} {tg : List Nat → Nat → List Nat} (htg : ∀ m ∈ ms, ∀ c ∈ sg, tg m c ∈ ms) : ∀ (v : List Nat) (m : List Nat), m ∈ ms → Ov sg v → wd (lcT ms tg) (ms.idxOf m) v = ms.idxOf (ledTo tg m v)
  | [], _, _, _ => rfl
  | c :: v, m, hm, ho => by
    show wd (lcT ms tg) (lcT ms tg (ms.idxOf m) c) v = ms.idxOf (ledTo tg (tg m c) v)
    have : lcT ms tg (ms.idxOf m) c = ms.idxOf (tg m c) := by unfold lcT; rw [getD_idx hm]
    rw [this]
    exact wd_led htg v _ (htg m hm c (ho c List.mem_cons_self)) fun d hd => ho d (List.mem_cons_of_mem _ hd)
theorem reachR_rows {sg : List Nat} {ms : List (List Nat)} {f : List Nat} {tg : List Nat → Nat → List Nat} (g : Good sg ms f tg) (h4 : ms.length ≤ 4) : reachR sg ms f tg = insAll (lcT ms tg) (ms.idxOf f) [] (upto sg 3) := by
  refine walkR_rows h4 (List.idxOf_lt_length_of_mem g.hf) (fun t c ht hc => ?_) fun t j c hc => ?_
  · unfold lcT
    refine List.idxOf_lt_length_of_mem ?_
    rw [List.getD_eq_getElem?_getD, List.getElem?_eq_getElem ht]
    exact g.htg _ (List.getElem_mem ht) c hc
  · unfold leadT lcT
    rw [List.getD_eq_getElem?_getD (l := sg), hc]; rfl
def fdK (ms : List (List Nat)) (L : WL) : List (Key × V) := L.map fun q => (tk (ms.getD q.1 []), .str (S q.2))
theorem fdK_none {ms : List (List Nat)} {L : WL} {m : List Nat} (hL : ∀ q ∈ L, q.1 < ms.length) (h : ms.idxOf m ∉ keysW L) (hnd : ms.Nodup) : valV (fdK ms L) (tk m) = none := valV_none fun p hp e => by
  obtain ⟨q, hq, rfl⟩ := List.mem_map.mp hp
  refine h ?_
  have e2 : ms.getD q.1 [] = m := tk_inj e
  have hl := hL q hq
  have : ms.idxOf m = q.1 := by
    rw [← e2, List.getD_eq_getElem?_getD, List.getElem?_eq_getElem hl, Option.getD_some]
    exact List.Nodup.idxOf_getElem hnd _ _
  rw [this]
  exact List.mem_map.mpr ⟨q, hq, rfl⟩
theorem fdK_some {ms : List (List Nat)} {L : WL} {i : Nat} {r : List Nat} (hL : ∀ q ∈ L, q.1 < ms.length) (hnd : ms.Nodup) (nd : (keysW L).Nodup) (h : (i, r) ∈ L) : valV (fdK ms L) (tk (ms.getD i [])) = some (.str (S r)) := by
  have inj : ∀ a b, a < ms.length → b < ms.length → ms.getD a [] = ms.getD b [] → a = b := fun a b ha hb e => by
    rw [List.getD_eq_getElem?_getD, List.getD_eq_getElem?_getD, List.getElem?_eq_getElem ha, List.getElem?_eq_getElem hb] at e
    have e : ms[a] = ms[b] := e
    have := List.Nodup.idxOf_getElem hnd a ha
    rw [e, List.Nodup.idxOf_getElem hnd b hb] at this
    exact this.symm
  have hi := hL _ h
  induction L with
  | nil => cases h
  | cons p L ih =>
    unfold keysW at nd ih
    rw [List.map_cons, List.nodup_cons] at nd
    unfold fdK at ih ⊢
    rw [List.map_cons]
    rcases List.mem_cons.mp h with e | e
    · rw [← e]; exact valV_pos rfl
    · rw [valV_neg fun q => ?_]
      · exact ih (fun q hq => hL q (List.mem_cons_of_mem _ hq)) nd.2 e
      · have : p.1 = i := inj _ _ (hL p List.mem_cons_self) hi (tk_inj q)
        exact nd.1 (by rw [this]; exact List.mem_map.mpr ⟨(i, r), e, rfl⟩)
theorem ins_more {lc : Nat → Nat → Nat} {b : Nat} {vs : List (List Nat)} {v : List Nat} {j : Nat} (h : vs[j]? = some v) : insAll lc b [] (vs.take (j + 1)) = ins (insAll lc b [] (vs.take j)) (wd lc b v, v) := by
  rw [take_more h, insAll_app]; rfl
theorem found_ok {sg : List Nat} {ms : List (List Nat)} {f : List Nat} {tg : List Nat → Nat → List Nat} (g : Good sg ms f tg) (j : Nat) : (keysW (insAll (lcT ms tg) (ms.idxOf f) [] ((upto sg 3).take j))).Nodup ∧ ∀ x ∈ keysW (insAll (lcT ms tg) (ms.idxOf f) [] ((upto sg 3).take j)), x < ms.length := by
  refine ins_wok _ [] (by unfold keysW; simp) (by unfold keysW; simp) fun q hq => ?_
  obtain ⟨v, hv, rfl⟩ := List.mem_map.mp hq
  have ho := upto_ov (List.mem_of_mem_take hv)
  show wd (lcT ms tg) (ms.idxOf f) v < ms.length
  rw [wd_led g.htg v f g.hf ho]
  exact List.idxOf_lt_length_of_mem (led_in g.htg ho g.hf)
def spLawReached : Sp := fun vs H Q _ => ∃ (a : Addr) (sg : List Nat) (ms : List (List Nat)) (f : List Nat) (tg : List Nat → Nat → List Nat) (pm pl : Addr) (ad : List Nat → Addr), vs = [.ref a] ∧ Told H a sg ms f tg pm pl ad ∧ Good sg ms f tg ∧ ms.length ≤ 4 ∧
  ∀ (p : Addr) (ps : List Addr) (H' : Hp), Same H H' → H' p = some (.tup (ps.map V.ref)) → ps.length = (pairsR sg ms f tg).length → (∀ (i : Nat) (a : Addr) (q : List Nat × List Nat), ps[i]? = some a → (pairsR sg ms f tg)[i]? = some q → H' a = some (.tup [.str (S q.1), .str (S q.2)])) → Q (.ref p) H'
theorem ok_lreached (T : BT mg) (c_rows : Cal P w K mg base 1 "_law_rows" spRows []) (c_led : Cal P w K mg base 1 "_law_led" spLed []) {f : Addr} {fd : FuncData} (F : Def K mg "_law_reached" s_reached f fd) (b : Binds K fd ["told"] []) : Cal P w K mg base 2 "_law_reached" spLawReached [] := by
  refine cal0 F b .nil sc_reached (fun vs H Q E h => ?_) (fun cdv A outer s H vs Q E hr h => ?_)
  · obtain ⟨a, sg, ms, f, tg, pm, pl, ad, rfl, _⟩ := h; rfl
  · obtain ⟨a, sg, ms, f, tg, pm, pl, ad, rfl, t, hgd, h4, k⟩ := h
    refine ⟨_, (pss_cons (ps_set (i := 1) sc_reached.nd rfl (.inr rfl) pe_dnewK)
      (pss_cons (ps_for PassesOwn.never rfl (pi_list (pe_c c_rows hr (by first | decide | omega) (by rfl) (pa_cons (pe_dget (hu_of hr) (pv 0) pe_str (fun _ _ => rfl)) (pa_cons pe_int pa_nil)))) (pg_name (i := 2) sc_reached.nd rfl (.inl rfl)) 
        (pss_cons (ps_set (i := 3) sc_reached.nd rfl (.inl rfl) (pe_c c_led hr (by first | decide | omega) (by rfl) (pa_cons (pv 0) (pa_cons (pe_dget (hu_of hr) (pv 0) pe_str (fun _ _ => rfl)) (pa_cons (pv 2) pa_nil)))))
        (pss_one (ps_if (pt_cmp (pc_dnotin (hu_of hr) (pv 3) (pv 1))) 
          (pss_one (ps_dput (hu_of hr) (pv 1) (pv 3) (pv 2) rfl)
          )
         pss_nil)
        )))
      (pss_one (ps_ret (pe_callTy (tupleK K) (by rfl) T.m_tuple PyProof.Rows.boot_tuple (pa_cons (pe_lc (own := [("mark", 3)]) rfl sc_reached.nd (pi_list (pe_dget (hu_of hr) (pv 0) pe_str (fun _ _ => rfl))) (blkOk_by (N := n_reached) (sc := fnScope s_reached) (by decide +kernel)) (fun _ _ _ _ _ => (pg_name (i := 3) sc_reached.nd rfl (.inl rfl))) (fun _ _ _ _ _ => pts_one (pt_cmp (pc_din (hu_of hr) (pv 3) (pv 1)))) (fun _ _ _ _ _ => (pe_tup (pa_cons (pv 3) (pa_cons (pe_dget (hu_of hr) (pv 1) (pv 3) (fun _ _ => rfl)) pa_nil))))) pa_nil)))
      ))), ?_⟩
    refine fun d hd => ?_
    have s0 : Same H (upd H d (.dK [])) := sm_put (Same.refl H) hd
    have hd0 : (upd H d (.dK [])) d = some (.dK (fdK ms (insAll (lcT ms tg) (ms.idxOf f) [] ((upto sg 3).take 0)))) := upd_same
    generalize upd H d (.dK []) = H0 at s0 hd0 ⊢
    refine ⟨_, rfl, _, _, rfl, (t.same s0).signs, sg, 3, rfl, hgd.hsg.2.2.1, by decide, fun g H1 s1 n1 h1 => ?_⟩
    refine ⟨g, rfl, ⟨_, SqL.of h1⟩, for_it (walk_list (K := K) (a := g) (xs := txs (upto sg 3))) (fun j σ H' => ∃ (s2 s3 : Option V), σ = [some (.ref a), some (.ref d), s2, s3] ∧ Same H H' ∧ H' g = some (.lst (txs (upto sg 3))) ∧
      H' d = some (.dK (fdK ms (insAll (lcT ms tg) (ms.idxOf f) [] ((upto sg 3).take j))))) ⟨_, _, rfl, s0.trans s1, h1, s1 _ _ hd0⟩ (fun _ _ _ _ ⟨_, _, _, _, h, _⟩ => SqL.of h) ?_ ?_⟩
    · rintro j x σ H2 H2' hj ⟨s2, s3, rfl, s4, hg2, hd2⟩ ⟨rfl, e⟩
      obtain ⟨v, hv, rfl⟩ := txs_get e
      have ho := upto_ov (List.mem_of_getElem? hv)
      have t2 := t.same s4
      have hm := led_in hgd.htg ho hgd.hf
      have hok := found_ok hgd j
      have hwd := wd_led hgd.htg v f hgd.hf ho
      refine ⟨_, rfl, _, rfl, _, _, rfl, t2.first, _, rfl, a, sg, ms, f, tg, pm, pl, ad, f, v, rfl, t2, hgd.htg, hgd.hf, ho, ?_⟩
      generalize hLe : insAll (lcT ms tg) (ms.idxOf f) [] ((upto sg 3).take j) = L at hd2 hok
      have hL : ∀ q ∈ L, q.1 < ms.length := fun q hq => hok.2 _ (List.mem_map.mpr ⟨q, hq, rfl⟩)
      have hLl : L.length ≤ ms.length := by
        have := nodup_len ms.length (keysW L) hok.1 hok.2
        unfold keysW at this; rwa [List.length_map] at this
      have hnx : insAll (lcT ms tg) (ms.idxOf f) [] ((upto sg 3).take (j + 1)) = ins L (ms.idxOf (ledTo tg f v), v) := by rw [ins_more hv, hLe, hwd]
      refine ⟨_, rfl, _, rfl, d, valV (fdK ms L) (tk (ledTo tg f v)), rfl, .inl ⟨_, _, .inl hd2, rfl, rfl⟩, _, rfl, ?_⟩
      by_cases hin : ms.idxOf (ledTo tg f v) ∈ keysW L
      · obtain ⟨⟨i, r⟩, hmem, ei⟩ := List.mem_map.mp hin
        have hv2 := fdK_some hL hgd.hnd hok.1 hmem
        have ei : i = ms.idxOf (ledTo tg f v) := ei
        rw [ei, getD_idx hm] at hv2
        rw [hv2]
        refine iteN rfl ?_
        exact ⟨_, _, rfl, s4, hg2, by rw [hnx, ins_in hin]; exact hd2⟩
      · rw [fdK_none hL hin hgd.hnd]
        refine iteB rfl ?_
        refine ⟨_, rfl, _, rfl, _, rfl, d, _, rfl, DPut.k (k := tk (ledTo tg f v)) hd2 (by unfold fdK; rw [List.length_map]; exact small1000 (by omega)), ?_⟩
        rw [putK_new _ (fdK_none hL hin hgd.hnd)]
        have hgd2 : g ≠ d := fun e => by rw [e, hd0] at n1; cases n1
        refine ⟨_, _, rfl, sm_put s4 hd, by rw [upd_ne hgd2]; exact hg2, ?_⟩
        rw [upd_same, hnx, ins_out hin]
        unfold fdK
        rw [List.map_append]
        show _ = some (HO.dK (_ ++ [(tk (ms.getD (ms.idxOf (ledTo tg f v)) []), V.str (S v))]))
        rw [getD_idx hm]
    · rintro σ H2 ⟨s2, s3, rfl, s4, hg2, hd2⟩
      rw [txs_len, List.take_length, ← reachR_rows hgd h4] at hd2
      have hW := reachR_ok hgd
      have t2 := t.same s4
      have hL : ∀ q ∈ reachR sg ms f tg, q.1 < ms.length := hW.lt
      refine ⟨_, rfl, _, _, rfl, t2.marks, pm, rfl, ⟨_, SqL.of t2.hpm⟩, fun D hD => ?_⟩
      refine lc_keepF keep_same (walk_list (K := K) (a := pm) (xs := txs ms)) hD (by rw [txs_len]; exact small1000 (by omega)) (hasR sg ms f tg) (fun i y H => ∃ t, y = .ref t ∧ H t = some (.tup [.str (S (ms.getD i [])), .str (S (rowR sg ms f tg i))]))
        (fun H r => SqL.of (r _ _ t2.hpm)) (fun _ _ _ _ _ r ⟨t, e, h⟩ => ⟨t, e, r _ _ h⟩) (fun _ _ _ _ _ _ hDa ⟨t, e, h⟩ => ⟨t, e, by rw [upd_ne (ne_of h hDa (by intro h; cases h))]; exact h⟩) (fun i x H5 H6 acc N R hi r5 hDa hy hR hN => ?_) (fun ys H5 hly hg r5 hDs => ?_)
      · obtain ⟨rfl, e⟩ := hy
        obtain ⟨mm, em, rfl⟩ := txs_get e
        have hd5 := r5 _ _ hd2
        have hil := lt_of_at em
        have hmm : ms.getD i [] = mm := getD_of em
        have hidx : ms.idxOf mm = i := by
          have := List.Nodup.idxOf_getElem hgd.hnd i hil
          rwa [(List.getElem?_eq_some_iff.mp em).2] at this
        refine ⟨rfl, ?_⟩
        refine ⟨_, rfl, _, rfl, d, valV (fdK ms (reachR sg ms f tg)) (tk mm), rfl, .inl ⟨_, _, .inl hd5, rfl, rfl⟩, _, rfl, ?_⟩
        by_cases hin : i ∈ (reachR sg ms f tg).map (·.1)
        · have hv := fdK_some hL hgd.hnd hW.nd (lookup_in hin)
          rw [hmm] at hv
          rw [hv]
          refine ⟨_, rfl, _, rfl, _, rfl, d, _, rfl, .inl ⟨_, tk mm, .inl hd5, rfl, hv.symm⟩, (by show 2 ≤ sizeLine; decide), fun t3 ht3 => ?_⟩
          exact hR (decide_eq_true hin) _ _ (sm_new ht3) ⟨t3, rfl, by rw [hmm]; exact upd_same⟩
        · rw [fdK_none hL (by rw [hidx]; exact hin) hgd.hnd]
          exact hN (decide_eq_false hin) _ (Same.refl _)
      · rw [txs_len] at hly hg
        obtain ⟨qs, rfl⟩ := refs_of (ys := ys) fun j y e => by
          have hj : j < (takenN (hasR sg ms f tg) ms.length).length := by rw [← hly]; exact (List.getElem?_eq_some_iff.mp e).1
          obtain ⟨t, e', _⟩ := hg j _ y (List.getElem?_eq_getElem hj) e
          exact ⟨t, e'⟩
        refine ⟨D, _, rfl, .inl ⟨SqL.of hDs, fun l hl => ?_⟩⟩
        have s6 : Same H5 (upd H5 l (.tup (qs.map V.ref))) := sm_put (Same.refl H5) hl
        refine k l qs _ ((s4.trans r5).trans s6) upd_same ?_ fun i a q h1 h2 => ?_
        · unfold pairsR; rw [List.length_map, ← hly, List.length_map]
        · unfold pairsR at h2
          rw [List.getElem?_map] at h2
          cases ek : (takenN (hasR sg ms f tg) ms.length)[i]? with
          | none => rw [ek] at h2; cases h2
          | some kk =>
            rw [ek] at h2
            obtain rfl := Option.some.inj h2
            obtain ⟨t, e', h⟩ := hg i kk (.ref a) ek (by rw [List.getElem?_map, h1]; rfl)
            cases e'
            exact s6 _ _ h
end
end Toy
set_option maxHeartbeats 2000000
namespace Toy
open PySem L2 C8 SX LX
section
variable {P : Program} {w : World} {K : PySem.W.Frag} {mg : Str → Option Value} {base : Heap}
abbrev s_lines : Stmt := top 20
abbrev n_lines : List Str := ["reader", "mark", "targets"]
theorem sc_lines : FnScope n_lines ["reader"] (fnScope s_lines) := fnScope_by (by decide +kernel)
def lineL (sg : List Nat) (tg : List Nat → Nat → List Nat) (m : List Nat) : List Nat := m ++ [58, 32] ++ TL.joinL [32] (sg.map (tg m))
theorem s_sp : (Str.ofString " ") = S [32] := by decide +kernel
theorem s_cs : (Str.ofString ": ") = S [58, 32] := by decide +kernel
theorem Good.len {sg : List Nat} {ms : List (List Nat)} {f : List Nat} {tg : List Nat → Nat → List Nat} (g : Good sg ms f tg) {m : List Nat} (h : m ∈ ms) : m.length ≤ 6 := (g.hnm m h).2.1
theorem lineL_len {sg : List Nat} {ms : List (List Nat)} {f : List Nat} {tg : List Nat → Nat → List Nat} (g : Good sg ms f tg) {m : List Nat} (h : m ∈ ms) : (lineL sg tg m).length ≤ 30 := by
  have h1 := g.len h
  have h2 := joinL_len (sep := [32]) (m := 6) (ys := sg.map (tg m)) fun y hy => by
    obtain ⟨c, hc, rfl⟩ := List.mem_map.mp hy
    exact g.len (g.htg m h c hc)
  rw [List.length_map] at h2
  have h3 := g.hsg.2.2.1
  unfold lineL
  simp only [List.length_append, List.length_cons, List.length_nil] at h2 ⊢
  omega
def spLines (C : Addr) : Sp := fun vs H Q _ => ∃ (a : Addr) (sg : List Nat) (ms : List (List Nat)) (f : List Nat) (tg : List Nat → Nat → List Nat), vs = [.ref a] ∧ Rdr C H a sg ms f tg ∧ Good sg ms f tg ∧
  ∀ (p : Addr) (H' : Hp), Same H H' → H p = none → H' p = some (.lst (txs (ms.map (lineL sg tg)))) → Q (.ref p) H'
theorem ok_lines {C : Addr} (T : BT mg) (CH : CR K C) {f : Addr} {fd : FuncData} (F : Def K mg "_lines_of_marks" s_lines f fd) (b : Binds K fd ["reader"] []) : Cal P w K mg base 1 "_lines_of_marks" (spLines C) [] := by
  refine cal0 F b .nil sc_lines (fun vs H Q E h => ?_) (fun cdv A outer s H vs Q E hr h => ?_)
  · obtain ⟨a, sg, ms, f, tg, rfl, _⟩ := h; rfl
  · obtain ⟨a, sg, ms, f, tg, rfl, hrd, hgd, k⟩ := h
    obtain ⟨dx, m, st, nu, le, sa, la, co, ca, r, hcol⟩ := id hrd
    refine ⟨_, (pss_one (ps_ret (pe_lc (own := [("mark", 1), ("targets", 2)]) rfl sc_lines.nd (pi_zipX (by rfl) T.m_zip (pa_cons (fldK K (pv 0) rfl) (pa_cons (fldK K (pv 0) rfl) pa_nil))) (blkOk_by (N := n_lines) (sc := fnScope s_lines) (by decide +kernel)) (fun _ _ _ _ _ => (tupK K 2 (pgs_cons (pg_name (i := 1) sc_lines.nd rfl (.inl rfl)) (pgs_cons (pg_name (i := 2) sc_lines.nd rfl (.inl rfl)) pgs_nil)))) (fun _ _ _ _ _ => pts_nil) (fun _ _ _ _ _ => (pe_joinedD (PJ.cons (pe_fmt (pv 1)) (PJ.cons pe_str (PJ.cons (pe_fmt (pe_joinK K pe_str (pv 2))) PJ.nil)))))))
      ), ?_⟩
    have h8 := hgd.h8
    refine ⟨_, rfl, a, C, dx, _, _, rfl, r.ha, CH.cl, CH.nM, rl_marks, _, rfl, a, C, dx, _, _, rfl, r.ha, CH.cl, CH.nT, rl_steps, ?_⟩
    refine nil1 ⟨.ref m, .ref st, .tup m, .tup st, rfl, rfl, rfl, ⟨_, SqT.of r.hm⟩, ⟨_, SqT.of r.hst⟩, fun D hD => ?_⟩
    refine lc_keep (n := min (txs ms).length (ms.map fun x => V.ref (sa x)).length) keep_same (walk_zipX (K := K) (S1 := .tup m) (S2 := .tup st) (xs := txs ms) (ys := ms.map fun x => V.ref (sa x))) hD (Nat.lt_of_le_of_lt (Nat.min_le_left _ _) (by rw [txs_len]; exact small1000 (by omega))) (fun j y => ∀ mm, ms[j]? = some mm → y = .str (S (lineL sg tg mm))) (fun H r1 => ⟨SqT.of (r1 _ _ r.hm), SqT.of (r1 _ _ r.hst)⟩) (fun i x H2 H3 R hi r2 hy hR => ?_) (fun ys H2 hly hg r2 hDs => ?_)
    · obtain ⟨t, x1, x2, rfl, ht, rfl, e1, e2⟩ := hy
      obtain ⟨mm, hmm, rfl⟩ := txs_get (show (txs ms)[i]? = some x1 from e1)
      have e2 : (ms.map fun x => V.ref (sa x))[i]? = some x2 := e2
      rw [List.getElem?_map, hmm] at e2
      obtain rfl : V.ref (sa mm) = x2 := Option.some.inj e2
      have hmem := List.mem_of_getElem? hmm
      have s3 : Same H2 (upd H2 t (.tup [.str (S mm), .ref (sa mm)])) := sm_new ht
      have ht3 : (upd H2 t (.tup [.str (S mm), .ref (sa mm)])) t = some (.tup [.str (S mm), .ref (sa mm)]) := upd_same
      generalize upd H2 t (.tup [.str (S mm), .ref (sa mm)]) = H3 at s3 ht3 ⊢
      refine ⟨t, _, rfl, .inl (.inl ht3), rfl, _, _, rfl, _, _, rfl, rfl, rfl, ?_⟩
      have h6 := hgd.len hmem
      refine ⟨_, rfl, .inl ⟨S mm, rfl, by rw [S_len]; exact sz h6 (by decide), S mm, rfl, by rw [show Str.empty = S [] from rfl, S_cat, S_len]; exact sz h6 (by decide), ?_⟩⟩
      have hl6 : ∀ l ∈ sg.map (tg mm), l.length ≤ 6 := fun l hl => by
        obtain ⟨c, hc, rfl⟩ := List.mem_map.mp hl
        exact hgd.len (hgd.htg mm hmem c hc)
      have hll := lineL_len hgd hmem
      have e0 : Str.empty ++ S mm ++ (Str.ofString ": ") = S (mm ++ [58, 32]) := by rw [s_cs, show Str.empty = S [] from rfl, S_cat, S_cat]; rfl
      have e1 : Txt.join (Str.ofString " ") ((sg.map (tg mm)).map S) = S (TL.joinL [32] (sg.map (tg mm))) := by rw [s_sp, join_S]
      have e2 : Str.empty ++ S mm ++ (Str.ofString ": ") ++ Txt.join (Str.ofString " ") ((sg.map (tg mm)).map S) = S (lineL sg tg mm) := by rw [e0, e1, S_cat]; rfl
      have hj := joinL_len (sep := [32]) hl6
      have h3 := hgd.hsg.2.2.1
      rw [List.length_map] at hj
      simp only [List.length_cons, List.length_nil] at hj
      refine ⟨_, rfl, by rw [e0, S_len]; simp; exact sz (m := 8) (by omega) (by decide), ?_⟩
      refine ⟨⟨_, rfl⟩, _, rfl, _, sa mm, (sg.map (tg mm)).map S, rfl, rfl, .inr (SqT.of (by rw [List.map_map]; exact (r2.trans s3) _ _ (r.hsa mm hmem))), by rw [s_sp]; exact joinS_ok hl6 (n := 3) (by rw [List.length_map]; exact h3) (by decide), ?_⟩
      refine .inl ⟨_, rfl, by rw [e1, S_len]; exact sz (m := 40) (by omega) (by decide), _, rfl, by rw [e2, S_len]; exact sz hll (by decide), ?_⟩
      show R (V.str (Str.empty ++ S mm ++ (Str.ofString ": ") ++ Txt.join (Str.ofString " ") ((sg.map (tg mm)).map S))) H3
      rw [e2]
      exact hR _ _ s3 fun m2 h2 => by rw [Option.some.inj (hmm.symm.trans h2)]
    · have hly2 : ys.length = ms.length := by rw [hly, txs_len, List.length_map, Nat.min_self]
      have eys : ys = txs (ms.map (lineL sg tg)) := by
        unfold txs; rw [List.map_map]
        exact list_map hly2 fun j y mm e1 e2 => hg j y e1 mm e2
      subst eys
      exact k D H2 r2 hD hDs
abbrev s_str : Stmt := inClass (top 19) 7
abbrev n_str : List Str := ["self"]
theorem sc_str : FnScope n_str ["self"] (fnScope s_str) := fnScope_by (by decide +kernel)
theorem s_nl : (Str.ofString "\n") = S [10] := by decide +kernel
theorem s_reader : (Str.ofString "reader ") = S [114, 101, 97, 100, 101, 114, 32] := by decide +kernel
theorem s_first : (Str.ofString "first ") = S [102, 105, 114, 115, 116, 32] := by decide +kernel
def textL (sg : List Nat) (ms : List (List Nat)) (f : List Nat) (tg : List Nat → Nat → List Nat) : List Nat := TL.joinL [10] (([114, 101, 97, 100, 101, 114, 32] ++ sg) :: ([102, 105, 114, 115, 116, 32] ++ f) :: ms.map (lineL sg tg))
def spStr (C : Addr) : Sp := fun vs H Q _ => ∃ (a : Addr) (sg : List Nat) (ms : List (List Nat)) (f : List Nat) (tg : List Nat → Nat → List Nat), vs = [.ref a] ∧ Rdr C H a sg ms f tg ∧ Good sg ms f tg ∧ ∀ H', Same H H' → Q (.str (S (textL sg ms f tg))) H'
theorem ok_str {C : Addr} (T : BT mg) (CH : CR K C) (c_lines : Cal P w K mg base 1 "_lines_of_marks" (spLines C) []) {f : Addr} {fd : FuncData} (me : Meth K C "__str__" f) (F : C8.Fun K "__str__" "Reader.__str__" s_str f fd) (b : Binds K fd ["self"] []) : Met P w K mg base 2 C "__str__" (spStr C) [] := by
  refine met0 CH.cl me F b sc_str (fun vs H Q E h => ?_) (fun cdv A outer s H vs Q E hr h => ?_)
  · obtain ⟨a, sg, ms, f, tg, rfl, _⟩ := h; rfl
  · obtain ⟨a, sg, ms, f, tg, rfl, hrd, hgd, k⟩ := h
    obtain ⟨dx, m, st, nu, le, sa, la, co, ca, r, hcol⟩ := id hrd
    refine ⟨_, (pss_one (ps_ret (pe_join pe_str (pe_lst (pa_cons (pe_joinedD (PJ.cons pe_str (PJ.cons (pe_fmt (fldK K (pv 0) rfl)) PJ.nil))) (pa_cons (pe_joinedD (PJ.cons pe_str (PJ.cons (pe_fmt (fldK K (pv 0) rfl)) PJ.nil))) (StX.pa_star (pe_c c_lines hr (by first | decide | omega) (by rfl) (pa_cons (pv 0) pa_nil)) pa_nil))))))
      ), ?_⟩
    have h8 := hgd.h8
    have h3 := hgd.hsg.2.2.1
    have hf6 := hgd.len hgd.hf
    have e1 : Str.empty ++ (Str.ofString "reader ") ++ S sg = S ([114, 101, 97, 100, 101, 114, 32] ++ sg) := by rw [s_reader, show Str.empty = S [] from rfl, S_cat, S_cat]; rfl
    have e2 : Str.empty ++ (Str.ofString "first ") ++ S f = S ([102, 105, 114, 115, 116, 32] ++ f) := by rw [s_first, show Str.empty = S [] from rfl, S_cat, S_cat]; rfl
    refine ⟨⟨_, rfl⟩, ?_⟩
    refine ⟨_, rfl, (by decide +kernel), _, rfl, a, C, dx, _, _, rfl, r.ha, CH.cl, CH.nS, rl_signs, .inl ⟨_, rfl, by rw [S_len]; exact sz h3 (by decide), _, rfl, by rw [e1, S_len, List.length_append]; exact sz (m := 10) (by simp; omega) (by decide), ?_⟩⟩
    refine ⟨_, rfl, (by decide +kernel), _, rfl, a, C, dx, _, _, rfl, r.ha, CH.cl, CH.nF, rl_first, .inl ⟨_, rfl, by rw [S_len]; exact sz hf6 (by decide), _, rfl, by rw [e2, S_len, List.length_append]; exact sz (m := 12) (by simp; omega) (by decide), ?_⟩⟩
    refine ⟨_, rfl, a, sg, ms, f, tg, rfl, hrd, hgd, fun D H1 s1 n1 h1 => ?_⟩
    refine ⟨D, _, rfl, .inr (SqL.of h1), ?_⟩
    refine ⟨by simp only [List.length_cons, List.length_append, List.length_nil, txs_len, List.length_map]; exact sz (m := 20) (by omega) (by decide), fun l hl => ?_⟩
    have el : ([V.str (Str.empty ++ (Str.ofString "reader ") ++ S sg), V.str (Str.empty ++ (Str.ofString "first ") ++ S f)] ++ (txs (ms.map (lineL sg tg)) ++ [])) = (((([114, 101, 97, 100, 101, 114, 32] ++ sg) :: ([102, 105, 114, 115, 116, 32] ++ f) :: ms.map (lineL sg tg)).map S).map V.str) := by
      rw [e1, e2, List.append_nil, List.map_map]; rfl
    refine ⟨_, l, ((([114, 101, 97, 100, 101, 114, 32] ++ sg) :: ([102, 105, 114, 115, 116, 32] ++ f) :: ms.map (lineL sg tg)).map S), rfl, rfl, .inl (SqL.of (by rw [upd_same]; exact congrArg (fun x => some (HO.lst x)) el)), ?_, ?_⟩
    · rw [s_nl]
      refine joinS_ok (m := 30) (n := 10) (fun y hy => ?_) (by simp; omega) (by decide)
      rcases List.mem_cons.mp hy with rfl | hy
      · rw [List.length_append]; simp; omega
      rcases List.mem_cons.mp hy with rfl | hy
      · rw [List.length_append]; simp; omega
      obtain ⟨mm, hm, rfl⟩ := List.mem_map.mp hy
      exact lineL_len hgd hm
    · rw [s_nl, join_S]
      exact k _ (s1.trans (sm_new hl))
end
end Toy
set_option maxHeartbeats 2000000
namespace Toy
open PySem L2 C8 SX LX
section
variable {P : Program} {w : World} {K : PySem.W.Frag} {mg : Str → Option Value} {base : Heap}
abbrev s_eq : Stmt := inClass (top 19) 6
abbrev n_eq : List Str := ["self", "other"]
theorem sc_eq : FnScope n_eq ["self", "other"] (fnScope s_eq) := fnScope_by (by decide +kernel)
def stepsL (sg : List Nat) (ms : List (List Nat)) (tg : List Nat → Nat → List Nat) : List (List (List Nat)) := ms.map fun x => sg.map (tg x)
def RSame (sg : List Nat) (ms : List (List Nat)) (f : List Nat) (tg : List Nat → Nat → List Nat) (sg' : List Nat) (ms' : List (List Nat)) (f' : List Nat) (tg' : List Nat → Nat → List Nat) : Prop := sg = sg' ∧ ms = ms' ∧ f = f' ∧ stepsL sg ms tg = stepsL sg' ms' tg'
instance {sg ms f tg sg' ms' f' tg'} : Decidable (RSame sg ms f tg sg' ms' f' tg') := by unfold RSame; infer_instance
def spEqR (K : PySem.W.Frag) (C : Addr) : Sp := fun vs H Q _ => ∃ (a : Addr) (sg : List Nat) (ms : List (List Nat)) (f : List Nat) (tg : List Nat → Nat → List Nat) (y : V), vs = [.ref a, y] ∧ Rdr C H a sg ms f tg ∧ Good sg ms f tg ∧
  ((∃ (b : Addr) (sg' : List Nat) (ms' : List (List Nat)) (f' : List Nat) (tg' : List Nat → Nat → List Nat), y = .ref b ∧ Rdr C H b sg' ms' f' tg' ∧ Good sg' ms' f' tg' ∧ Q (.bl (decide (RSame sg ms f tg sg' ms' f' tg'))) H) ∨
   ((∃ t, TyX K H y t ∧ PySem.W.kitOne K t (.ref C) = some false) ∧ Q (.bl false) H))
theorem dp_tt {K : PySem.W.Frag} {C : Addr} {H : Hp} {a : Addr} {sg : List Nat} {ms : List (List Nat)} {f : List Nat} {tg : List Nat → Nat → List Nat} {dx m st nu le : Addr} {sa la : List Nat → Addr} {t : List (Str × V)} (r : RdrAt C H a sg ms f tg dx m st nu le sa la t) : Dp K H (.ref st) (ttD (stepsL sg ms tg)) := by
  refine .tup (SqT.of r.hst) ?_
  unfold stepsL
  rw [List.map_map]
  exact dpAll_get fun x hx => dp_t (SqT.of (r.hsa x hx))
theorem name_small {l : List Nat} (h : Name l) : ∀ c ∈ l, c < 1114112 := fun c hc => by have := h.2.2.1 c hc; omega
theorem Good.small {sg : List Nat} {ms : List (List Nat)} {f : List Nat} {tg : List Nat → Nat → List Nat} (g : Good sg ms f tg) : Small ms := fun l hl => name_small (g.hnm l hl)
theorem Good.steps {sg : List Nat} {ms : List (List Nat)} {f : List Nat} {tg : List Nat → Nat → List Nat} (g : Good sg ms f tg) : ∀ xs ∈ stepsL sg ms tg, Small xs ∧ (∀ l ∈ xs, l.length ≤ 6) ∧ xs.length ≤ 3 := fun xs hx => by
  obtain ⟨m, hm, rfl⟩ := List.mem_map.mp hx
  refine ⟨fun l hl => ?_, fun l hl => ?_, by rw [List.length_map]; exact g.hsg.2.2.1⟩
  · obtain ⟨c, hc, rfl⟩ := List.mem_map.mp hl
    exact g.small _ (g.htg m hm c hc)
  · obtain ⟨c, hc, rfl⟩ := List.mem_map.mp hl
    exact g.len (g.htg m hm c hc)
theorem Good.fit {sg : List Nat} {ms : List (List Nat)} {f : List Nat} {tg : List Nat → Nat → List Nat} (g : Good sg ms f tg) : Fit 4 200 (ttD (stepsL sg ms tg)) :=
  (fit_tt g.steps (p := 8) (by unfold stepsL; rw [List.length_map]; exact g.h8)).mono (Nat.le_refl _) (by decide)
theorem S_inj {a b : List Nat} (h : S a = S b) : a = b := by
  have : (S a).cps.toList = (S b).cps.toList := congrArg (fun z : Str => z.cps.toList) h
  simpa [S] using this
theorem strV_eq {a b : List Nat} : (V.str (S a) = V.str (S b)) = (a = b) := by
  rw [V.str.injEq]; exact propext ⟨S_inj, congrArg S⟩
theorem ok_eq {C : Addr} (T : BT mg) (CH : CR K C) (insC : InsC K C) (mgC : mg "Reader" = some (.ref C)) {f : Addr} {fd : FuncData} (me : Meth K C "__eq__" f) (F : C8.Fun K "__eq__" "Reader.__eq__" s_eq f fd) (b : Binds K fd ["self", "other"] []) : Met P w K mg base 1 C "__eq__" (spEqR K C) [] := by
  refine met0 CH.cl me F b sc_eq (fun vs H Q E h => ?_) (fun cdv A outer s H vs Q E hr h => ?_)
  · obtain ⟨a, sg, ms, f, tg, y, rfl, _⟩ := h; rfl
  · obtain ⟨a, sg, ms, f, tg, y, rfl, hrd, hgd, hy⟩ := h
    obtain ⟨dx, m, st, nu, le, sa, la, co, ca, r, hcol⟩ := id hrd
    refine ⟨_, (pss_one (ps_ret (pe_and (pe_callB (isiK K) (by rfl) T.m_isinstance PyProof.Rows.boot_isinstance (pa_cons (pv 1) (pa_cons (pe_glob (v := .ref C) (by rfl) mgC rfl) pa_nil))) (pe_and (pe_cmpR op_eq (fldK K (pv 0) rfl) (fldK K (pv 1) rfl) (nomark _)) (pe_and (pe_cmpR (op_eqSs hr) (fldK K (pv 0) rfl) (fldK K (pv 1) rfl) (nomark _)) (pe_and (pe_cmpR op_eq (fldK K (pv 0) rfl) (fldK K (pv 1) rfl) (nomark _)) (pe_one (pe_cmpR (op_eqDK K hr) (fldK K (pv 0) rfl) (fldK K (pv 1) rfl) (nomark _))))))))
      ), ?_⟩
    rcases hy with ⟨b, sg', ms', f', tg', rfl, hrd', hgd', q⟩ | ⟨⟨t, ht, hk⟩, q⟩
    · obtain ⟨dx', m', st', nu', le', sa', la', co', ca', r', hcol'⟩ := id hrd'
      have fin : ∀ {b : Bool}, (b = true ↔ RSame sg ms f tg sg' ms' f' tg') → Q (.bl b) H := fun {b} h => by
        have : b = decide (RSame sg ms f tg sg' ms' f' tg') := by
          rw [Bool.eq_iff_iff, decide_eq_true_eq]; exact h
        rw [this]; exact q
      refine ⟨_, rfl, _, _, .ref C, _, true, rfl, .own C, .base (TyOf.ins r'.ha CH.cl insC.ha insC.hn insC.htk insC.hm), insC.me, true, rfl, iteT ?_⟩
      refine ⟨_, rfl, a, C, dx, _, _, rfl, r.ha, CH.cl, CH.nS, rl_signs, _, rfl, b, C, dx', _, _, rfl, r'.ha, CH.cl, CH.nS, rl_signs, rfl, _, rfl, ?_⟩
      by_cases e1 : sg = sg'
      · refine iteB (decide_eq_true (by rw [strV_eq]; exact e1)) ?_
        refine ⟨_, rfl, a, C, dx, _, _, rfl, r.ha, CH.cl, CH.nM, rl_marks, _, rfl, b, C, dx', _, _, rfl, r'.ha, CH.cl, CH.nM, rl_marks, m, m', ms, ms', rfl, rfl, .inr ⟨SqT.of r.hm, SqT.of r'.hm⟩, hgd.small, hgd'.small, _, rfl, ?_⟩
        by_cases e2 : ms = ms'
        · refine iteB (decide_eq_true e2) ?_
          refine ⟨_, rfl, a, C, dx, _, _, rfl, r.ha, CH.cl, CH.nF, rl_first, _, rfl, b, C, dx', _, _, rfl, r'.ha, CH.cl, CH.nF, rl_first, rfl, _, rfl, ?_⟩
          by_cases e3 : f = f'
          · refine iteB (decide_eq_true (by rw [strV_eq]; exact e3)) ?_
            refine ⟨_, rfl, a, C, dx, _, _, rfl, r.ha, CH.cl, CH.nT, rl_steps, _, rfl, b, C, dx', _, _, rfl, r'.ha, CH.cl, CH.nT, rl_steps, _, _, dp_tt r, dp_tt r', hgd.fit.shaped (by decide) (.inl ⟨_, rfl⟩), hgd'.fit.shaped (by decide) (.inl ⟨_, rfl⟩), ?_⟩
            rw [eqv_tt]
            exact fin (by rw [decide_eq_true_eq]; exact ⟨fun h => ⟨e1, e2, e3, h⟩, fun h => h.2.2.2⟩)
          · refine iteN (decide_eq_false (by rw [strV_eq]; exact e3)) ?_
            exact fin ⟨fun h => (nomatch h), fun h => absurd h.2.2.1 e3⟩
        · refine iteN (decide_eq_false e2) ?_
          exact fin ⟨fun h => (nomatch h), fun h => absurd h.2.1 e2⟩
      · refine iteN (decide_eq_false (by rw [strV_eq]; exact e1)) ?_
        exact fin ⟨fun h => (nomatch h), fun h => absurd h.1 e1⟩
    · refine ⟨_, rfl, y, _, t, _, false, rfl, .own C, ht, hk, false, rfl, iteN rfl ?_⟩
      exact q
end
end Toy
set_option maxHeartbeats 2000000
namespace Toy
open PySem L2 C8 SX LX
section
variable {P : Program} {w : World} {K : PySem.W.Frag} {mg : Str → Option Value} {base : Heap}
theorem lc_steps {σ : L2.St} {H : Hp} {Q : VK} {a : Addr} {sg : List Nat} {ms : List (List Nat)} {f : List Nat} {tg : List Nat → Nat → List Nat} {pm pl : Addr} {ad : List Nat → Addr} {z i j : Nat} (hz : σ[z]? = some (some (.ref a))) (hzi : i ≠ z) (hzj : j ≠ z) (hij : j ≠ i) (hi : i < σ.length) (hj : j < σ.length)
    (t : Told H a sg ms f tg pm pl ad) (hgd : Good sg ms f tg) (k : ∀ (D : Addr) (sa : List Nat → Addr) (H' : Hp), Same H H' → H D = none → (∀ x ∈ ms, H (sa x) = none) → StepsAt sg ms tg D sa H' → Q (.ref D) H') :
    tLc (iList K (tDGet (tVar z) (tC (V.str (Str.ofString "marks"))))) (gName i) tYes (tLc (iStr (tDGet (tVar z) (tC (V.str (Str.ofString "signs"))))) (gName j) tYes (tDGet (tDGet (tDGet (tVar z) (tC (V.str (Str.ofString "leads")))) (tVar i)) (tVar j)) [j]) [i] σ H Q := by
  have h8 := hgd.h8
  refine ⟨_, hz, _, _, rfl, t.marks, pm, rfl, ⟨_, SqL.of t.hpm⟩, fun D hD => ?_⟩
  refine lc_keepH keep_same (walk_list (K := K) (a := pm) (xs := txs ms)) hD (by rw [txs_len]; exact small1000 (by omega)) (fun j y H' => ∃ p, y = .ref p ∧ p ≠ D ∧ H p = none ∧ ∀ mm, ms[j]? = some mm → H' p = some (.lst (txs (sg.map (tg mm))))) (fun H r => SqL.of (r _ _ t.hpm))
    (fun _ _ _ _ _ r1 ⟨p, e, n, n0, h⟩ => ⟨p, e, n, n0, fun mm hm => r1 _ _ (h mm hm)⟩) (fun _ _ _ _ _ _ _ ⟨p, e, n, n0, h⟩ => ⟨p, e, n, n0, fun mm hm => by rw [upd_ne n]; exact h mm hm⟩) (fun ii x H2 H2' acc R hii r2 hDa hy hR => ?_) (fun ys H2 hly hg r2 hDs => ?_)
  · obtain ⟨rfl, e⟩ := hy
    obtain ⟨mm, em, rfl⟩ := txs_get e
    have hmem := List.mem_of_getElem? em
    have t2 := t.same r2
    have s1 : (σ.set i none).set i (some (V.str (S mm))) = σ.set i (some (V.str (S mm))) := List.set_set ..
    refine ⟨by show (((σ.set i none).set i _).set i none) = σ.set i none; rw [List.set_set, List.set_set], ?_⟩
    show tLc (iStr (tDGet (tVar z) (tC (V.str (Str.ofString "signs"))))) (gName j) tYes (tDGet (tDGet (tDGet (tVar z) (tC (V.str (Str.ofString "leads")))) (tVar i)) (tVar j)) [j] ((σ.set i none).set i (some (V.str (S mm)))) _ R
    rw [s1]
    have hz1 : (σ.set i (some (V.str (S mm))))[z]? = some (some (.ref a)) := by rw [List.getElem?_set_ne hzi]; exact hz
    refine ⟨_, hz1, _, _, rfl, t2.signs, S sg, rfl, fun D2 hD2 => lc_keep keep_same walk_str hD2 (by show sg.length < sizeLine; exact small1000 (by have := hgd.hsg.2.2.1; omega)) (fun j y => ∀ c, sg[j]? = some c → y = .str (S (tg mm c))) (fun _ _ => trivial) (fun jj zz H3 H4 R2 hjj r3 hy hR2 => ?_) (fun zs H3 hlz hgz r3 hDz => ?_)⟩
    · obtain ⟨rfl, c, hc, rfl⟩ := hy
      have hc' : sg[jj]? = some c := by simpa [S] using hc
      have t3 := t2.same r3
      refine ⟨by show ((((σ.set i _).set j none).set j _).set j none) = (σ.set i _).set j none; rw [List.set_set, List.set_set], ?_⟩
      have e2 : ((σ.set i (some (V.str (S mm)))).set j none).set j (some (V.str ⟨#[c]⟩)) = (σ.set i (some (V.str (S mm)))).set j (some (V.str ⟨#[c]⟩)) := List.set_set ..
      show tDGet (tDGet (tDGet (tVar z) (tC (V.str (Str.ofString "leads")))) (tVar i)) (tVar j) (((σ.set i (some (V.str (S mm)))).set j none).set j (some (V.str ⟨#[c]⟩))) _ R2
      rw [e2]
      have hz2 : ((σ.set i (some (V.str (S mm)))).set j (some (V.str ⟨#[c]⟩)))[z]? = some (some (.ref a)) := by rw [List.getElem?_set_ne hzj]; exact hz1
      have hi2 : ((σ.set i (some (V.str (S mm)))).set j (some (V.str ⟨#[c]⟩)))[i]? = some (some (V.str (S mm))) := by rw [List.getElem?_set_ne hij, List.getElem?_set_self hi]
      have hj2 : ((σ.set i (some (V.str (S mm)))).set j (some (V.str ⟨#[c]⟩)))[j]? = some (some (V.str ⟨#[c]⟩)) := List.getElem?_set_self (by rw [List.length_set]; exact hj)
      refine ⟨_, hz2, _, _, rfl, t3.leads, ?_⟩
      refine ⟨_, hi2, _, _, rfl, t3.mark hmem, ?_⟩
      refine ⟨_, hj2, _, _, rfl, t3.at_ hmem (List.mem_of_getElem? hc'), ?_⟩
      exact hR2 _ _ (Same.refl _) fun c' h => by rw [Option.some.inj (hc'.symm.trans h)]
    · have ez : zs = txs (sg.map (tg mm)) := by
        unfold txs; rw [List.map_map]
        exact list_map hlz fun j y c e1 e2 => hgz j y e1 c e2
      subst ez
      have nD : D2 ≠ D := fun e => by rw [e, hDa] at hD2; cases hD2
      exact hR _ _ r3 ⟨D2, rfl, nD, r2.free hD2, fun m2 h2 => by rw [em] at h2; cases h2; exact hDz⟩
  rw [txs_len] at hly
  obtain ⟨sa, hsa⟩ := fun_of (γ := Addr) hgd.hnd (P := fun j mm t => ys[j]? = some (V.ref t) ∧ H t = none ∧ H2 t = some (.lst (txs (sg.map (tg mm))))) fun j mm hj => by
    have hjl : j < ys.length := by rw [hly]; exact (List.getElem?_eq_some_iff.mp hj).1
    obtain ⟨t, e, _, n0, h⟩ := hg j _ (List.getElem?_eq_getElem hjl)
    exact ⟨t, by rw [List.getElem?_eq_getElem hjl, e], n0, h mm hj⟩
  have eys : ys = ms.map fun x => V.ref (sa x) := list_map hly fun j y x e1 e2 => by have := (hsa j x e2).1; rw [e1] at this; exact Option.some.inj this
  subst eys
  exact k D sa H2 r2 hD (fun x hx => by obtain ⟨j, hj⟩ := List.getElem?_of_mem hx; exact (hsa j x hj).2.1) ⟨hDs, fun x hx => by obtain ⟨j, hj⟩ := List.getElem?_of_mem hx; exact (hsa j x hj).2.2⟩
theorem mk_rdr {C : Addr} {H : Hp} {R : Addr → Hp → Prop} {q P : Addr} {b c d : Bool} {sg : List Nat} {ms : List (List Nat)} {f : List Nat} {tg : List Nat → Nat → List Nat} {pa : List Nat → Addr} (hq : H q = some (seqB b (txs ms))) (hP : H P = some (seqB c (ms.map fun x => .ref (pa x)))) (hpa : ∀ x ∈ ms, H (pa x) = some (seqB d (txs (sg.map (tg x))))) (g : Good sg ms f tg)
    (k : ∀ (p : Addr) (H' : Hp), Same H H' → H p = none → Rdr C H' p sg ms f tg → R p H') : ∀ x dx, H x = none → H dx = none → dx ≠ x → spInit C (.ref x :: ([.str (S sg), .ref q, .str (S f), .ref P] ++ [])) (upd (upd H dx (.own x)) x (.ins C dx [])) (fun v H' => v = .non ∧ R x H') C8.E0 := by
  intro p dx hp hdx hne
  have hpx : ∀ b o, H b = some o → b ≠ p ∧ b ≠ dx := fun b o e => ⟨fun z => (by rw [← z, e] at hp; cases hp), fun z => (by rw [← z, e] at hdx; cases hdx)⟩
  have kp : ∀ b o, H b = some o → (upd (upd H dx (.own p)) p (.ins C dx [])) b = some o := fun b o e => by rw [upd_ne (hpx b o e).1, upd_ne (hpx b o e).2]; exact e
  exact ⟨p, dx, q, P, b, c, d, sg, ms, f, tg, pa, rfl, upd_same, kp _ _ hq, kp _ _ hP, fun x hx => kp _ _ (hpa x hx), g, fun H' hk hr => ⟨rfl, k p H' (fun b o e => hk b o (hpx b o e).1 (kp b o e)) hp hr⟩⟩
end
end Toy
set_option maxHeartbeats 2000000
namespace Toy
open PySem L2 C8 SX LX
section
variable {P : Program} {w : World} {K : PySem.W.Frag} {mg : Str → Option Value} {base : Heap}
def tupAt (e : Expr) (i : Nat) : Expr := match e with
  | .Tuple es _ _ => es.getD i e
  | e => e
abbrev s_others : Stmt := top 40
abbrev n_others : List Str := ["told", "marks", "steps", "found", "turned", "other", "mark", "sign"]
theorem sc_others : FnScope n_others ["told"] (fnScope s_others) := fnScope_by (by decide +kernel)
abbrev ncs_others : Scope := relS (outS (tupAt (ofRet ((fnBody s_others).getD 0 (.Pass ⟨0, 0, 0, 0⟩))) 1)) (fnScope s_others)
def spOthers (C : Addr) : Sp := fun vs H Q _ => ∃ (a : Addr) (sg : List Nat) (ms : List (List Nat)) (f : List Nat) (tg : List Nat → Nat → List Nat) (pm pl : Addr) (ad : List Nat → Addr), vs = [.ref a] ∧ Told H a sg ms f tg pm pl ad ∧ Mch sg ms f tg 4 ∧
  ∀ (p : Addr) (qs : List Addr) (H' : Hp), Same H H' → H p = none → H' p = some (.lst (qs.map V.ref)) → qs.length ≤ 3 →
    (∀ q ∈ qs, ∃ (ms' : List (List Nat)) (f' : List Nat) (tg' : List Nat → Nat → List Nat), Rdr C H' q sg ms' f' tg' ∧ Good sg ms' f' tg' ∧ ¬ RSame sg ms' f' tg' sg ms f tg) → Q (.ref p) H'
theorem Mch.good {sg : List Nat} {ms : List (List Nat)} {f : List Nat} {tg : List Nat → Nat → List Nat} {n : Nat} (m : Mch sg ms f tg n) (hn : n ≤ 7) : Good sg ms f tg :=
  ⟨m.hsg, m.hms.1, m.hms.2.1, by have := m.hms.2.2.1; omega, fun x hx => by
    have h : x ∈ nm8 := m.hms.2.2.2 x hx
    simp only [nm8, List.mem_cons, List.mem_nil_iff, or_false] at h
    rcases h with rfl | rfl | rfl | rfl | rfl | rfl | rfl | rfl <;> decide, m.hf, m.htg⟩
def qq : List Nat := [113, 113]
theorem s_qq : (Str.ofString "qq") = S qq := by decide +kernel
theorem qq_name : Name qq := by decide
theorem qq_no {ms : List (List Nat)} {n : Nat} (h : Mks ms n) : qq ∉ ms := fun hq => absurd (h.2.2.2 _ hq) (by decide)
def tgQ (tg : List Nat → Nat → List Nat) (x : List Nat) (c : Nat) : List Nat := if x = qq then qq else tg x c
theorem good_more {sg : List Nat} {ms : List (List Nat)} {f : List Nat} {tg : List Nat → Nat → List Nat} {n : Nat} (m : Mch sg ms f tg n) (hn : n ≤ 7) : Good sg (ms ++ [qq]) f (tgQ tg) := by
  have g := m.good hn
  refine ⟨g.hsg, ?_, by simp, by rw [List.length_append]; have := m.hms.2.2.1; simp; omega, fun x hx => ?_, List.mem_append_left _ g.hf, fun x hx c hc => ?_⟩
  · rw [List.nodup_append]
    refine ⟨g.hnd, by simp, fun a ha b hb e => ?_⟩
    rw [List.mem_singleton] at hb
    subst hb; subst e
    exact qq_no m.hms ha
  · rcases List.mem_append.mp hx with h | h
    · exact g.hnm x h
    · rw [List.mem_singleton.mp h]; exact qq_name
  · unfold tgQ
    split
    · simp
    · rename_i hne
      rcases List.mem_append.mp hx with h | h
      · exact List.mem_append_left _ (g.htg x h c hc)
      · exact absurd (List.mem_singleton.mp h) hne
theorem good_rev {sg : List Nat} {ms : List (List Nat)} {f : List Nat} {tg : List Nat → Nat → List Nat} (g : Good sg ms f tg) : Good sg ms.reverse f tg :=
  ⟨g.hsg, ((List.reverse_perm ms).nodup_iff).mpr g.hnd, by rw [List.length_reverse]; exact g.h1, by rw [List.length_reverse]; exact g.h8, fun x hx => g.hnm x (List.mem_reverse.mp hx), List.mem_reverse.mpr g.hf, fun x hx c hc => List.mem_reverse.mpr (g.htg x (List.mem_reverse.mp hx) c hc)⟩
theorem good_first {sg : List Nat} {ms : List (List Nat)} {f f' : List Nat} {tg : List Nat → Nat → List Nat} (g : Good sg ms f tg) (h : f' ∈ ms) : Good sg ms f' tg := ⟨g.hsg, g.hnd, g.h1, g.h8, g.hnm, h, g.htg⟩
theorem rev_ne {ms : List (List Nat)} (nd : ms.Nodup) (h : 1 < ms.length) : ms.reverse ≠ ms := fun e => by
  have e1 : ms.reverse[0]? = ms[0]? := by rw [e]
  rw [List.getElem?_reverse (by omega), List.getElem?_eq_getElem (by omega), List.getElem?_eq_getElem (by omega)] at e1
  have e2 := nd.idxOf_getElem 0 (by omega)
  rw [← Option.some.inj e1, nd.idxOf_getElem _ (by omega)] at e2
  omega
def Odd (C : Addr) (sg : List Nat) (ms : List (List Nat)) (f : List Nat) (tg : List Nat → Nat → List Nat) (H : Hp) (q : Addr) : Prop := ∃ (ms' : List (List Nat)) (f' : List Nat) (tg' : List Nat → Nat → List Nat), Rdr C H q sg ms' f' tg' ∧ Good sg ms' f' tg' ∧ ¬ RSame sg ms' f' tg' sg ms f tg
theorem Odd.same {C : Addr} {sg : List Nat} {ms : List (List Nat)} {f : List Nat} {tg : List Nat → Nat → List Nat} {H H' : Hp} {q : Addr} (o : Odd C sg ms f tg H q) (s : Same H H') : Odd C sg ms f tg H' q := let ⟨a, b, c, r, g, n⟩ := o; ⟨a, b, c, r.same s, g, n⟩
theorem Rdr.nl {C : Addr} {H H' : Hp} {a : Addr} {sg : List Nat} {ms : List (List Nat)} {f : List Nat} {tg : List Nat → Nat → List Nat} (r : Rdr C H a sg ms f tg) (s : NL H H') : Rdr C H' a sg ms f tg :=
  let ⟨dx, m, st, nu, le, sa, la, co, ca, h, hc⟩ := r
  have n : ∀ {a : Addr} {o : HO}, H a = some o → (∀ xs, o ≠ .lst xs) → H' a = some o := fun e n => s _ _ e n
  ⟨dx, m, st, nu, le, sa, la, co, ca, ⟨n h.ha (by intro _ z; cases z), n h.hm (by intro _ z; cases z), n h.hst (by intro _ z; cases z), fun x hx => n (h.hsa x hx) (by intro _ z; cases z), n h.hnu (by intro _ z; cases z), n h.hle (by intro _ z; cases z), fun x hx => n (h.hla x hx) (by intro _ z; cases z)⟩, ⟨n hc.hco (by intro _ z; cases z), fun c hx => n (hc.hca c hx) (by intro _ z; cases z)⟩⟩
theorem Odd.nl {C : Addr} {sg : List Nat} {ms : List (List Nat)} {f : List Nat} {tg : List Nat → Nat → List Nat} {H H' : Hp} {q : Addr} (o : Odd C sg ms f tg H q) (s : NL H H') : Odd C sg ms f tg H' q := let ⟨a, b, c, r, g, n⟩ := o; ⟨a, b, c, r.nl s, g, n⟩
theorem ok_others {C : Addr} (T : BT mg) (CH : CR K C) (mgC : mg "Reader" = some (.ref C)) (c_Reader : Mak P w K mg base 5 "Reader" C (spInit C) []) {f : Addr} {fd : FuncData} (F : Def K mg "_law_others" s_others f fd) (b : Binds K fd ["told"] []) : Cal P w K mg base 7 "_law_others" (spOthers C) [] := by
  refine cal0 F b .nil sc_others (fun vs H Q E h => ?_) (fun cdv A outer s H vs Q E hr h => ?_)
  · obtain ⟨a, sg, ms, f, tg, pm, pl, ad, rfl, _⟩ := h; rfl
  · obtain ⟨a, sg, ms, f, tg, pm, pl, ad, rfl, t, hm, k⟩ := h
    refine ⟨_, (pss_cons (ps_par (i := 1) (j := 2) rfl sc_others.nd rfl rfl (by decide) rfl rfl (pa_cons (pe_dget (hu_of hr) (pv 0) pe_str (fun _ _ => rfl)) (pa_cons (pe_lc (own := [("mark", 6)]) rfl sc_others.nd (pi_list (pe_dget (hu_of hr) (pv 0) pe_str (fun _ _ => rfl))) (blkOk_by (N := n_others) (sc := fnScope s_others) (by decide +kernel)) (fun _ _ _ _ _ => (pg_name (i := 6) sc_others.nd rfl (.inr rfl))) (fun _ _ _ _ _ => pts_nil) (fun _ _ _ _ _ => (pe_lc (own := [("sign", 7)]) rfl sc_others.nd (pi_str (pe_dget (hu_of hr) (pv 0) pe_str (fun _ _ => rfl))) (blkOk_by (N := n_others) (sc := ncs_others) (by decide +kernel)) (fun _ _ _ _ _ => (pg_name (i := 7) sc_others.nd rfl (.inl rfl))) (fun _ _ _ _ _ => pts_nil) (fun _ _ _ _ _ => (pe_dget (hu_of hr) (pe_dget (hu_of hr) (pe_dget (hu_of hr) (pv 0) pe_str (fun _ _ => rfl)) (pv 6) (fun _ _ => rfl)) (pv 7) (fun _ _ => rfl)))))) pa_nil)) rfl)
      (pss_cons (ps_set (i := 3) sc_others.nd rfl (.inl rfl) (pe_lst pa_nil))
      (C8.pss_cut (ps_if (pt_cmpR op_lt (pe_callB (lenK K) (by rfl) T.m_len PySem.boot_len (pa_cons (pv 1) pa_nil)) pe_int (nomark _)) 
        (pss_one (ps_expr (pe_bm PySem.F.plainAttrs_list PySem.F.slot_list_append PySem.F.type_list_append mt_append (pv 3) (pa_cons (pe_mk c_Reader hr (by decide) (by rfl) (pa_cons (pe_dget (hu_of hr) (pv 0) pe_str (fun _ _ => rfl)) (pa_cons (pe_op op_cat (pv 1) (pe_lst (pa_cons pe_str pa_nil))) (pa_cons (pe_dget (hu_of hr) (pv 0) pe_str (fun _ _ => rfl)) (pa_cons (pe_op op_cat (pv 2) (pe_lst (pa_cons (pe_op op_rep (pe_lst (pa_cons pe_str pa_nil)) (pe_callB call_len_str (by rfl) T.m_len PySem.boot_len (pa_cons (pe_dget (hu_of hr) (pv 0) pe_str (fun _ _ => rfl)) pa_nil))) pa_nil))) pa_nil))))) pa_nil)))
        )
       pss_nil)
      (pss_cons (ps_if (pt_cmpR op_gt (pe_callB (lenK K) (by rfl) T.m_len PySem.boot_len (pa_cons (pv 1) pa_nil)) pe_int (nomark _)) 
        (pss_cons (ps_set (i := 4) sc_others.nd rfl (.inl rfl) (pe_revLX K (pv 1) (pe_op op_sub pe_int pe_int)))
        (pss_cons (ps_expr (pe_bm PySem.F.plainAttrs_list PySem.F.slot_list_append PySem.F.type_list_append mt_append (pv 3) (pa_cons (pe_mk c_Reader hr (by decide) (by rfl) (pa_cons (pe_dget (hu_of hr) (pv 0) pe_str (fun _ _ => rfl)) (pa_cons (pv 4) (pa_cons (pe_dget (hu_of hr) (pv 0) pe_str (fun _ _ => rfl)) (pa_cons (pe_revLX K (pv 2) (pe_op op_sub pe_int pe_int)) pa_nil))))) pa_nil)))
        (pss_cons (ps_set (i := 5) sc_others.nd rfl (.inl rfl) (pe_ifExp (pt_cmpR op_ne (pe_dget (hu_of hr) (pv 0) pe_str (fun _ _ => rfl)) (pe_ix (ixl K) (pv 1) pe_int (fun _ _ => rfl)) (nomark _)) (pe_ix (ixl K) (pv 1) pe_int (fun _ _ => rfl)) (pe_ix (ixl K) (pv 1) pe_int (fun _ _ => rfl))))
        (pss_one (ps_expr (pe_bm PySem.F.plainAttrs_list PySem.F.slot_list_append PySem.F.type_list_append mt_append (pv 3) (pa_cons (pe_mk c_Reader hr (by decide) (by rfl) (pa_cons (pe_dget (hu_of hr) (pv 0) pe_str (fun _ _ => rfl)) (pa_cons (pv 1) (pa_cons (pv 5) (pa_cons (pv 2) pa_nil))))) pa_nil)))
        ))))
       pss_nil)
      (pss_one (ps_ret (pv 3))
      ))))), ?_⟩
    have hgd := hm.good (by decide)
    have h4 := hm.hms.2.2.1
    have hnq := qq_no hm.hms
    refine ⟨_, rfl, _, _, rfl, t.marks, ?_⟩
    refine lc_steps (σ := L2.start n_others [.ref a]) (z := 0) (i := 6) (j := 7) rfl (by decide) (by decide) (by decide) (by show 6 < 8; decide) (by show 7 < 8; decide) t hgd fun D sa H1 s1 nD nsa hS => ?_
    refine ⟨_, _, rfl, ?_⟩
    refine ⟨Nat.zero_le _, fun fp hfp => ?_⟩
    have s2 : Same H (upd H1 fp (.lst [])) := sm_put s1 (s1.free hfp)
    have hfp2 : (upd H1 fp (.lst [])) fp = some (.lst (([] : List Addr).map V.ref)) := upd_same
    have hS2 : StepsAt sg ms tg D sa (upd H1 fp (.lst [])) := ⟨by rw [upd_ne (ne_of_none hS.1 hfp)]; exact hS.1, fun x hx => by rw [upd_ne (ne_of_none (hS.2 x hx) hfp)]; exact hS.2 x hx⟩
    have nDf : D ≠ fp := ne_of_none hS.1 hfp
    have nsf : ∀ x ∈ ms, sa x ≠ fp := fun x hx => ne_of_none (hS.2 x hx) hfp
    have nfp := s1.free hfp
    generalize upd H1 fp (.lst []) = H2 at s2 hfp2 hS2 ⊢
    clear hS s1 hfp
    refine ⟨fun σ H' => ∃ (qs : List Addr) (s4 s5 s6 s7 : Option V), σ = [some (.ref a), some (.ref pm), some (.ref D), some (.ref fp), s4, s5, s6, s7] ∧ Same H H' ∧ H' fp = some (.lst (qs.map V.ref)) ∧ StepsAt sg ms tg D sa H' ∧ qs.length ≤ 1 ∧ ∀ q ∈ qs, Odd C sg ms f tg H' q, ?_, ?_⟩
    · have t2 := t.same s2
      refine ⟨_, rfl, pm, _, rfl, .inl (SqL.of t2.hpm), _, _, rfl, rfl, _, rfl, ?_⟩
      refine ite2 (fun _ => ?_) (fun _ => ⟨[], _, _, _, _, rfl, s2, hfp2, hS2, by decide, fun q h => nomatch h⟩)
      refine ⟨_, rfl, .inl ⟨rfl, _, SqL.of hfp2⟩, ?_⟩
      refine ⟨_, rfl, _, _, rfl, t2.signs, ?_⟩
      refine ⟨_, rfl, (by decide), fun l1 hl1 => ?_⟩
      have t3 := t2.same (sm_new (o := .lst [.str (Str.ofString "qq")]) hl1)
      refine ⟨pm, l1, txs ms, [.str (Str.ofString "qq")], rfl, rfl, t3.hpm, upd_same, by rw [txs_len]; exact sz (m := 10) (by simp; omega) (by decide), fun l2 hl2 => ?_⟩
      have t4 := t3.same (sm_new (o := .lst (txs ms ++ [.str (Str.ofString "qq")])) hl2)
      refine ⟨_, rfl, _, _, rfl, t4.first, ?_⟩
      refine ⟨_, rfl, (by decide), fun l3 hl3 => ?_⟩
      have t5 := t4.same (sm_new (o := .lst [.str (Str.ofString "qq")]) hl3)
      refine ⟨_, rfl, _, _, rfl, t5.signs, S sg, rfl, by rw [S_len]; exact sz hgd.hsg.2.2.1 (by decide), ?_⟩
      have h3 := hgd.hsg.2.2.1
      rw [S_len]
      refine ⟨l3, (sg.length : Int), [.str (Str.ofString "qq")], rfl, rfl, upd_same, by omega, by omega, by simp; exact sz h3 (by decide), fun l4 hl4 => ?_⟩
      refine ⟨(by show 1 ≤ sizeLine; decide), fun l5 hl5 => ?_⟩
      have s25 := sm_put' (sm_put' (sm_put' (sm_put' (sm_new (o := .lst [.str (Str.ofString "qq")]) hl1) hl2 (o := .lst (txs ms ++ [.str (Str.ofString "qq")]))) hl3 (o := .lst [.str (Str.ofString "qq")])) hl4 (o := .lst (List.replicate ((sg.length : Int).toNat) [V.str (Str.ofString "qq")]).flatten)) hl5 (o := .lst [.ref l4])
      refine ⟨D, l5, _, _, rfl, rfl, s25 _ _ hS2.1, upd_same, by rw [List.length_map]; exact sz (m := 10) (by simp; omega) (by decide), fun l6 hl6 => ?_⟩
      have s26 := sm_put' s25 hl6 (o := .lst (ms.map (fun x => V.ref (sa x)) ++ [.ref l4]))
      have e2 : some (HO.lst (txs ms ++ [V.str (Str.ofString "qq")])) = some (seqB true (txs (ms ++ [qq]))) := by
        rw [s_qq]; unfold txs; rw [List.map_append]; rfl
      have eqa : ∀ x ∈ ms, x ≠ qq := fun x hx e => hnq (e ▸ hx)
      have e6 : some (HO.lst (ms.map (fun x => V.ref (sa x)) ++ [V.ref l4])) = some (seqB true ((ms ++ [qq]).map fun x => .ref (if x = qq then l4 else sa x))) := by
        rw [List.map_append, show (ms.map fun x => V.ref (if x = qq then l4 else sa x)) = ms.map fun x => V.ref (sa x) from List.map_congr_left fun x hx => by rw [if_neg (eqa x hx)]]
        rfl
      have e4 : some (HO.lst (List.replicate ((sg.length : Int).toNat) [V.str (Str.ofString "qq")]).flatten) = some (seqB true (txs (sg.map (tgQ tg qq)))) := by
        rw [Int.toNat_natCast, s_qq, show sg.map (tgQ tg qq) = List.replicate sg.length qq from by
          rw [List.eq_replicate_iff]
          exact ⟨List.length_map .., fun x hx => by obtain ⟨c, _, rfl⟩ := List.mem_map.mp hx; unfold tgQ; rw [if_pos rfl]⟩]
        unfold txs
        rw [List.map_replicate, List.flatten_replicate_singleton]
        rfl
      refine nil1 (mk_rdr (b := true) (c := true) (d := true) (f := f) (ms := ms ++ [qq]) (tg := tgQ tg) (pa := fun x => if x = qq then l4 else sa x)
        ((sm_put' (sm_put' (sm_put' (sm_new hl3) hl4) hl5) hl6) _ _ (upd_same.trans e2)) (upd_same.trans e6) (fun x hx => ?_) (good_more hm (by decide)) fun p H7 s7 np hr => ?_)
      · rcases List.mem_append.mp hx with h | h
        · rw [if_neg (eqa x h)]
          have e : sg.map (tgQ tg x) = sg.map (tg x) := List.map_congr_left fun c _ => by unfold tgQ; rw [if_neg (eqa x h)]
          rw [e]
          exact s26 _ _ (hS2.2 x h)
        · rw [List.mem_singleton.mp h, if_pos rfl]
          exact (sm_put' (sm_new hl5) hl6) _ _ (upd_same.trans e4)
      have s27 := s26.trans s7
      refine ⟨fp, _, _, rfl, rfl, s27 _ _ hfp2, by decide, ?_⟩
      have n7 : NL H7 (upd H7 fp (.lst [.ref p])) := nl_lset (s27 _ _ hfp2)
      refine ⟨[p], _, _, _, _, rfl, sm_put (s2.trans s27) nfp, upd_same, ⟨by rw [upd_ne nDf]; exact s27 _ _ hS2.1, fun x hx => by rw [upd_ne (nsf x hx)]; exact s27 _ _ (hS2.2 x hx)⟩, (by show 1 ≤ 1; decide), fun q hq => ?_⟩
      rw [List.mem_singleton.mp hq]
      refine ⟨_, _, _, hr.nl n7, good_more hm (by decide), fun e => ?_⟩
      have := congrArg List.length e.2.1
      simp at this
    · rintro σ H3 ⟨qs, s4, s5, s6, s7, rfl, s3, hf3, hS3, hq1, hqs⟩
      have t3 := t.same s3
      refine ⟨_, rfl, pm, _, rfl, .inl (SqL.of t3.hpm), _, _, rfl, rfl, _, rfl, ?_⟩
      refine ite2 (fun h2 => ?_) (fun _ => ⟨_, rfl, k fp qs H3 s3 nfp hf3 (by omega) hqs⟩)
      rw [txs_len, decide_eq_true_eq] at h2
      have h2 : 1 < ms.length := by omega
      refine ⟨_, rfl, _, _, rfl, rfl, _, rfl, rfl, pm, txs ms, rfl, SqL.of t3.hpm, fun l1 hl1 => ?_⟩
      have hl1' : (upd H3 l1 (.lst (txs ms).reverse)) l1 = some (.lst (txs ms.reverse)) := by rw [upd_same]; unfold txs; rw [List.map_reverse]
      have s4' : Same H3 (upd H3 l1 (.lst (txs ms).reverse)) := sm_new hl1
      generalize upd H3 l1 (.lst (txs ms).reverse) = H4 at hl1' s4' ⊢
      have t4 := t3.same s4'
      refine ⟨_, rfl, .inl ⟨rfl, _, SqL.of (s4' _ _ hf3)⟩, ?_⟩
      refine ⟨_, rfl, _, _, rfl, t4.signs, _, rfl, _, rfl, _, _, rfl, t4.first, _, rfl, _, _, rfl, rfl, _, rfl, rfl, D, ms.map (fun x => V.ref (sa x)), rfl, SqL.of (s4' _ _ hS3.1), fun l2 hl2 => ?_⟩
      have s5' : Same H4 (upd H4 l2 (.lst (ms.map fun x => V.ref (sa x)).reverse)) := sm_new hl2
      have s45 := s4'.trans s5'
      refine nil1 (mk_rdr (b := true) (c := true) (d := true) (f := f) (ms := ms.reverse) (tg := tg) (pa := sa) (s5' _ _ hl1') (by rw [upd_same, List.map_reverse]; rfl) (fun x hx => s45 _ _ (hS3.2 x (List.mem_reverse.mp hx))) (good_rev hgd) fun p H5 s6' np hr => ?_)
      have s46 := s45.trans s6'
      refine ⟨fp, _, _, rfl, rfl, s46 _ _ hf3, by rw [List.length_map]; exact sz (m := 10) (by omega) (by decide), ?_⟩
      have n5 : NL H5 (upd H5 fp (.lst (qs.map V.ref ++ [.ref p]))) := nl_lset (s46 _ _ hf3)
      have s36 : Same H (upd H5 fp (.lst (qs.map V.ref ++ [.ref p]))) := sm_put (s3.trans s46) nfp
      have hf5 : (upd H5 fp (.lst (qs.map V.ref ++ [.ref p]))) fp = some (.lst ((qs ++ [p]).map V.ref)) := by rw [upd_same, List.map_append]; rfl
      have hS5 : StepsAt sg ms tg D sa (upd H5 fp (.lst (qs.map V.ref ++ [.ref p]))) := ⟨by rw [upd_ne nDf]; exact s46 _ _ hS3.1, fun x hx => by rw [upd_ne (nsf x hx)]; exact s46 _ _ (hS3.2 x hx)⟩
      have hq5 : ∀ q ∈ qs ++ [p], Odd C sg ms f tg (upd H5 fp (.lst (qs.map V.ref ++ [.ref p]))) q := fun q hq => by
        rcases List.mem_append.mp hq with h | h
        · exact ((hqs q h).same s46).nl n5
        · rw [List.mem_singleton.mp h]
          exact ⟨_, _, _, hr.nl n5, good_rev hgd, fun e => rev_ne hgd.hnd h2 e.2.1⟩
      generalize upd H5 fp (.lst (qs.map V.ref ++ [.ref p])) = H6 at s36 hf5 hS5 hq5 ⊢
      clear hr np s6' s46 s45 s5' hl2 t4 s4' hl1' hqs hS3 hf3 s3 t3 hl1 n5
      have t6 := t.same s36
      have h0 : (txs ms)[0]? = some (.str (S (ms.getD 0 []))) := by
        unfold txs; rw [List.getElem?_map, List.getElem?_eq_getElem (by omega), List.getD_eq_getElem?_getD, List.getElem?_eq_getElem (by omega)]; rfl
      have h1 : (txs ms)[1]? = some (.str (S (ms.getD 1 []))) := by
        unfold txs; rw [List.getElem?_map, List.getElem?_eq_getElem h2, List.getD_eq_getElem?_getD, List.getElem?_eq_getElem h2]; rfl
      refine ⟨_, rfl, _, _, rfl, t6.first, _, rfl, pm, txs ms, 0, _, rfl, rfl, SqL.of t6.hpm, at_of rfl h0, rfl, _, rfl, ?_⟩
      have hm0 : ms.getD 0 [] ∈ ms := by rw [List.getD_eq_getElem?_getD, List.getElem?_eq_getElem (by omega)]; exact List.getElem_mem _
      have hm1 : ms.getD 1 [] ∈ ms := by rw [List.getD_eq_getElem?_getD, List.getElem?_eq_getElem h2]; exact List.getElem_mem _
      have h01 : ms.getD 1 [] ≠ ms.getD 0 [] := fun e => by
        rw [List.getD_eq_getElem?_getD, List.getD_eq_getElem?_getD, List.getElem?_eq_getElem h2, List.getElem?_eq_getElem (show 0 < ms.length by omega)] at e
        have e2 := hgd.hnd.idxOf_getElem 0 (by omega)
        rw [← show ms[1] = ms[0] from e, hgd.hnd.idxOf_getElem 1 h2] at e2
        omega
      rcases Decidable.em (f = ms.getD 0 []) with hf0 | hf0
      · refine iteN (by rw [hf0]; simp) ?_
        refine ⟨_, rfl, pm, txs ms, 1, _, rfl, rfl, SqL.of t6.hpm, at_of rfl h1, ?_⟩
        rw [← hf0] at h01
        clear h1 h0 hm0 hf0
        generalize ms.getD 1 [] = o at hm1 h01 ⊢
        refine ⟨_, rfl, .inl ⟨rfl, _, SqL.of hf5⟩, _, rfl, _, _, rfl, t6.signs, _, rfl, _, rfl, _, rfl, ?_⟩
        refine nil1 (mk_rdr (b := true) (c := true) (d := true) (f := o) (ms := ms) (tg := tg) (pa := sa) t6.hpm hS5.1 hS5.2 (good_first hgd hm1) fun p2 H7 s7' np2 hr2 => ?_)
        refine ⟨fp, _, _, rfl, rfl, s7' _ _ hf5, by rw [List.length_map, List.length_append]; exact sz (m := 10) (by simp; omega) (by decide), ?_⟩
        have n7 : NL H7 (upd H7 fp (.lst ((qs ++ [p]).map V.ref ++ [.ref p2]))) := nl_lset (s7' _ _ hf5)
        refine ⟨_, rfl, k fp ((qs ++ [p]) ++ [p2]) _ (sm_put (s36.trans s7') nfp) nfp (by rw [upd_same]; simp) (by simp; omega) fun q hq => ?_⟩
        rcases List.mem_append.mp hq with h | h
        · exact ((hq5 q h).same s7').nl n7
        · rw [List.mem_singleton.mp h]
          exact ⟨_, _, _, hr2.nl n7, good_first hgd hm1, fun e => h01 e.2.2.1⟩
      · refine iteB (by rw [decide_eq_false (by rw [strV_eq]; exact hf0)]; rfl) ?_
        refine ⟨_, rfl, pm, txs ms, 0, _, rfl, rfl, SqL.of t6.hpm, at_of rfl h0, ?_⟩
        clear h1 h0 hm1 h01
        generalize ms.getD 0 [] = o at hm0 hf0 ⊢
        refine ⟨_, rfl, .inl ⟨rfl, _, SqL.of hf5⟩, _, rfl, _, _, rfl, t6.signs, _, rfl, _, rfl, _, rfl, ?_⟩
        refine nil1 (mk_rdr (b := true) (c := true) (d := true) (f := o) (ms := ms) (tg := tg) (pa := sa) t6.hpm hS5.1 hS5.2 (good_first hgd hm0) fun p2 H7 s7' np2 hr2 => ?_)
        refine ⟨fp, _, _, rfl, rfl, s7' _ _ hf5, by rw [List.length_map, List.length_append]; exact sz (m := 10) (by simp; omega) (by decide), ?_⟩
        have n7 : NL H7 (upd H7 fp (.lst ((qs ++ [p]).map V.ref ++ [.ref p2]))) := nl_lset (s7' _ _ hf5)
        refine ⟨_, rfl, k fp ((qs ++ [p]) ++ [p2]) _ (sm_put (s36.trans s7') nfp) nfp (by rw [upd_same]; simp) (by simp; omega) fun q hq => ?_⟩
        rcases List.mem_append.mp hq with h | h
        · exact ((hq5 q h).same s7').nl n7
        · rw [List.mem_singleton.mp h]
          exact ⟨_, _, _, hr2.nl n7, good_first hgd hm0, fun e => hf0 e.2.2.1.symm⟩
end
end Toy
set_option maxHeartbeats 4000000
namespace Toy
open PySem L2 C8 SX LX
section
variable {P : Program} {w : World} {K : PySem.W.Frag} {mg : Str → Option Value} {base : Heap}
abbrev s_kept : Stmt := top 41
abbrev n_kept : List Str := ["told", "steps", "marks", "before", "made", "text", "due", "mark", "sign"]
theorem sc_kept : FnScope n_kept ["told"] (fnScope s_kept) := fnScope_by (by decide +kernel)
abbrev ncs_kept : Scope := relS (outS (ofRet ((fnBody s_kept).getD 0 (.Pass ⟨0, 0, 0, 0⟩)))) (fnScope s_kept)
def lD (xs : List (List Nat)) : PyData := .list (xs.map fun l => .str (S l))
def llD (xss : List (List (List Nat))) : PyData := .list (xss.map lD)
def bD (ms : List (List Nat)) (xss : List (List (List Nat))) : PyData := .list [lD ms, llD xss]
def prD (L : List (List Nat × List Nat)) : PyData := .tuple (L.map fun q => .tuple [.str (S q.1), .str (S q.2)])
theorem fit_l {m n : Nat} {xs : List (List Nat)} (hs : Small xs) (hl : ∀ l ∈ xs, l.length ≤ n) (hm : xs.length ≤ m) : Fit 2 (m * (n + 1)) (lD xs) :=
  Fit.lst (k := 0) (n := n) (fun d hd => by obtain ⟨l, hl', rfl⟩ := List.mem_map.mp hd; exact Fit.text (hs l hl') (hl l hl')) (by rw [List.length_map]; exact hm)
theorem Good.fitB {sg : List Nat} {ms : List (List Nat)} {f : List Nat} {tg : List Nat → Nat → List Nat} (g : Good sg ms f tg) : Fit 6 400 (bD ms (stepsL sg ms tg)) := by
  have h1 : Fit 4 176 (lD ms) := (fit_l g.small (fun l hl => g.len hl) g.h8 (n := 6)).mono (by decide) (by decide)
  have h2 : Fit 4 176 (llD (stepsL sg ms tg)) := Fit.lst (k := 2) (n := 21) (m := 8) (fun d hd => by
    obtain ⟨xs, hx, rfl⟩ := List.mem_map.mp hd
    obtain ⟨a1, a2, a3⟩ := g.steps xs hx
    exact fit_l a1 a2 a3) (by unfold stepsL; rw [List.length_map, List.length_map]; exact g.h8)
  refine (Fit.lst (k := 4) (n := 176) (m := 2) (fun d hd => ?_) (by show 2 ≤ 2; decide)).mono (by decide) (by decide)
  rcases List.mem_cons.mp hd with rfl | hd
  · exact h1
  · rw [List.mem_singleton.mp hd]; exact h2
theorem dp_l {K : PySem.W.Frag} {H : Hp} {a : Addr} {xs : List (List Nat)} (h : SqL K H a (txs xs)) : Dp K H (.ref a) (lD xs) := .lst h (dp_strs xs)
theorem dp_b {K : PySem.W.Frag} {H : Hp} {l mk D : Addr} {sg : List Nat} {ms : List (List Nat)} {tg : List Nat → Nat → List Nat} {sa : List Nat → Addr} (hl : H l = some (.lst [.ref mk, .ref D])) (hm : H mk = some (.lst (txs ms))) (hS : StepsAt sg ms tg D sa H) : Dp K H (.ref l) (bD ms (stepsL sg ms tg)) := by
  refine .lst (SqL.of hl) (.cons (dp_l (SqL.of hm)) (.cons (.lst (SqL.of hS.1) ?_) .nil))
  unfold stepsL
  rw [List.map_map]
  exact dpAll_get fun x hx => dp_l (SqL.of (hS.2 x hx))
theorem dpAll_idx {K : PySem.W.Frag} {H : Hp} {α : Type} {g : α → PyData} : ∀ {ps : List Addr} {L : List α}, ps.length = L.length → (∀ (i : Nat) a q, ps[i]? = some a → L[i]? = some q → Dp K H (.ref a) (g q)) → DpAll K H (ps.map V.ref) (L.map g)
  | [], [], _, _ => .nil
  | p :: ps, q :: L, e, h => .cons (h 0 p q rfl rfl) (dpAll_idx (by simpa using e) fun i a q h1 h2 => h (i + 1) a q h1 h2)
  | [], _ :: _, e, _ => by simp at e
  | _ :: _, [], e, _ => by simp at e
theorem dp_pr {K : PySem.W.Frag} {H : Hp} {p : Addr} {ps : List Addr} {L : List (List Nat × List Nat)} (h : H p = some (.tup (ps.map V.ref))) (hl : ps.length = L.length) (hq : ∀ (i : Nat) (a : Addr) (q : List Nat × List Nat), ps[i]? = some a → L[i]? = some q → H a = some (.tup [.str (S q.1), .str (S q.2)])) : Dp K H (.ref p) (prD L) :=
  .tup (SqT.of h) (dpAll_idx hl fun i a q h1 h2 => .tup (SqT.of (hq i a q h1 h2)) (.cons (.str _) (.cons (.str _) .nil)))
theorem mem_insAll {lc : Nat → Nat → Nat} {b : Nat} {q : Nat × List Nat} : ∀ {vs : List (List Nat)} {L : WL}, q ∈ insAll lc b L vs → q ∈ L ∨ q.2 ∈ vs
  | [], L, h => .inl h
  | v :: vs, L, h => by
    have h : q ∈ insAll lc b (ins L (wd lc b v, v)) vs := h
    rcases mem_insAll h with h | h
    · unfold ins at h
      split at h
      · exact .inl h
      · rcases List.mem_append.mp h with h | h
        · exact .inl h
        · rw [List.mem_singleton.mp h]; exact .inr List.mem_cons_self
    · exact .inr (List.mem_cons_of_mem _ h)
theorem pairs_fit {sg : List Nat} {ms : List (List Nat)} {f : List Nat} {tg : List Nat → Nat → List Nat} (g : Good sg ms f tg) (h4 : ms.length ≤ 4) : Fit 4 200 (prD (pairsR sg ms f tg)) := by
  refine (Fit.tup (k := 2) (n := 14) (m := 8) (fun d hd => ?_) ?_).mono (by decide) (by decide)
  · obtain ⟨q, hq, rfl⟩ := List.mem_map.mp hd
    obtain ⟨i, hi, rfl⟩ := List.mem_map.mp hq
    have hi' := List.mem_filter.mp hi
    have hil : i < ms.length := List.mem_range.mp hi'.1
    have hin : i ∈ (reachR sg ms f tg).map (·.1) := of_decide_eq_true hi'.2
    have hmem := lookup_in hin
    rw [reachR_rows g h4] at hmem
    have hrow : rowR sg ms f tg i ∈ upto sg 3 := by
      have : rowR sg ms f tg i = ((insAll (lcT ms tg) (ms.idxOf f) [] (upto sg 3)).lookup i).getD [] := by unfold rowR; rw [reachR_rows g h4]
      rw [this]
      exact (mem_insAll hmem).resolve_left (fun h => nomatch h)
    obtain ⟨hr3, hro⟩ := upto_row hrow
    have hmm : ms.getD i [] ∈ ms := by rw [List.getD_eq_getElem?_getD, List.getElem?_eq_getElem hil]; exact List.getElem_mem _
    refine (Fit.tup (k := 0) (n := 6) (m := 2) (fun d hd => ?_) (by show 2 ≤ 2; decide)).mono (by decide) (by decide)
    rcases List.mem_cons.mp hd with rfl | hd
    · exact Fit.text (g.small _ hmm) (g.len hmm)
    · rw [List.mem_singleton.mp hd]
      exact Fit.text (fun c hc => by have := g.hsg.2.2.2 c (hro c hc); omega) (by show (rowR sg ms f tg i).length ≤ 6; omega)
  · unfold pairsR
    rw [List.length_map, List.length_map]
    exact Nat.le_trans takenN_le g.h8
def NX (H H' : Hp) : Prop := ∀ a o, H a = some o → (∀ xs, o ≠ .lst xs) → (∀ ps, o ≠ .tbl ps) → H' a = some o
theorem NX.trans {H H1 H2 : Hp} (p : NX H H1) (q : NX H1 H2) : NX H H2 := fun a o e n m => q a o (p a o e n m) n m
theorem nx_ext {H H' : Hp} (s : LamX.ExtN H H') : NX H H' := fun a o e _ m => s a o e m
theorem nx_nl {H H' : Hp} (s : NL H H') : NX H H' := fun a o e n _ => s a o e n
theorem RdrAt.nx {C : Addr} {H H' : Hp} {a : Addr} {sg : List Nat} {ms : List (List Nat)} {f : List Nat} {tg : List Nat → Nat → List Nat} {dx m st nu le : Addr} {sa la : List Nat → Addr} {t : List (Str × V)} (h : RdrAt C H a sg ms f tg dx m st nu le sa la t) (s : NX H H') : RdrAt C H' a sg ms f tg dx m st nu le sa la t :=
  have n : ∀ {a : Addr} {o : HO}, H a = some o → (∀ xs, o ≠ .lst xs) → (∀ ps, o ≠ .tbl ps) → H' a = some o := fun e n m => s _ _ e n m
  ⟨n h.ha (by intro _ z; cases z) (by intro _ z; cases z), n h.hm (by intro _ z; cases z) (by intro _ z; cases z), n h.hst (by intro _ z; cases z) (by intro _ z; cases z), fun x hx => n (h.hsa x hx) (by intro _ z; cases z) (by intro _ z; cases z), n h.hnu (by intro _ z; cases z) (by intro _ z; cases z), n h.hle (by intro _ z; cases z) (by intro _ z; cases z), fun x hx => n (h.hla x hx) (by intro _ z; cases z) (by intro _ z; cases z)⟩
theorem Rdr.nx {C : Addr} {H H' : Hp} {a : Addr} {sg : List Nat} {ms : List (List Nat)} {f : List Nat} {tg : List Nat → Nat → List Nat} (r : Rdr C H a sg ms f tg) (s : NX H H') : Rdr C H' a sg ms f tg :=
  let ⟨dx, m, st, nu, le, sa, la, co, ca, h, hc⟩ := r
  have n : ∀ {a : Addr} {o : HO}, H a = some o → (∀ xs, o ≠ .lst xs) → (∀ ps, o ≠ .tbl ps) → H' a = some o := fun e n m => s _ _ e n m
  ⟨dx, m, st, nu, le, sa, la, co, ca, h.nx s, ⟨n hc.hco (by intro _ z; cases z) (by intro _ z; cases z), fun c hx => n (hc.hca c hx) (by intro _ z; cases z) (by intro _ z; cases z)⟩⟩
theorem Told.ext {H H' : Hp} {a : Addr} {sg : List Nat} {ms : List (List Nat)} {f : List Nat} {tg : List Nat → Nat → List Nat} {pm pl : Addr} {ad : List Nat → Addr} (t : Told H a sg ms f tg pm pl ad) (s : LamX.ExtN H H') : Told H' a sg ms f tg pm pl ad :=
  ⟨s _ _ t.ha (by intro _ z; cases z), s _ _ t.hpm (by intro _ z; cases z), s _ _ t.hpl (by intro _ z; cases z), fun m h => s _ _ (t.had m h) (by intro _ z; cases z)⟩
theorem tabs_lset {TT : List NdefX.NTab} {H : Hp} {a : Addr} {xs ys : List V} (h : H a = some (.lst xs)) (t : NdefX.TabsN TT H) : NdefX.TabsN TT (upd H a (.lst ys)) := fun p hp => by
  obtain ⟨ps, h1, h2, h3⟩ := t p hp
  refine ⟨ps, by rw [upd_ne (ne_of h1 h (by intro z; cases z))]; exact h1, h2, fun pos cv hc => ?_⟩
  obtain ⟨c, e1, e2⟩ := h3 pos cv hc
  exact ⟨c, e1, by rw [upd_ne (ne_of e2 h (by intro z; cases z))]; exact e2⟩
theorem ext_put {H H' : Hp} {a : Addr} {o : HO} (s : LamX.ExtN H H') (n : H a = none) : LamX.ExtN H (upd H' a o) := fun b u e m => by rw [upd_ne (ne_of_none e n)]; exact s b u e m
def spKept (TT : List NdefX.NTab) : Sp := fun vs H Q _ => ∃ (a : Addr) (sg : List Nat) (ms : List (List Nat)) (f : List Nat) (tg : List Nat → Nat → List Nat) (pm pl : Addr) (ad : List Nat → Addr), vs = [.ref a] ∧ Told H a sg ms f tg pm pl ad ∧ Mch sg ms f tg 4 ∧ NdefX.TabsN TT H ∧
  ∀ H', LamX.ExtN H H' → NdefX.TabsN TT H' → Q (.bl true) H'
theorem seq_asg {te : TE} {i : Nat} {u : TS} {D : Ends} {σ : L2.St} {H : Hp} (h : te σ H fun x H1 => u D (σ.set i (some x)) H1) : tSeq (tAsg te (gName i)) u D σ H := h
theorem ok_kept {C : Addr} {TT : List NdefX.NTab} (T : BT mg) (CH : CR K C) (mgC : mg "Reader" = some (.ref C)) (c_Reader : Mak P w K mg base 5 "Reader" C (spInit C) []) (c_str : Met P w K mg base 2 C "__str__" (spStr C) []) (c_rch : Cal P w K mg base 4 "reached" (spReached C TT) [])
    {f : Addr} {fd : FuncData} (F : Def K mg "_law_kept_right" s_kept f fd) (b : Binds K fd ["told"] []) : CalG P w K mg base 7 "_law_kept_right" (spKept TT) := by
  refine ⟨f, fd, ["told"], fnG0 F.fn sc_kept (fun vs H Q E h => ?_) (fun cd A ou t0 H vs Q E gd hr h => ?_), F.mgf, F.kp, b⟩
  · obtain ⟨a, sg, ms, f, tg, pm, pl, ad, rfl, _⟩ := h; rfl
  · obtain ⟨a, sg, ms, f, tg, pm, pl, ad, rfl, t, hm, hT, k⟩ := h
    refine ⟨_, (pss_cons (ps_setLc (i := 1) (own := [("mark", 7)]) rfl sc_kept.nd rfl rfl rfl (pi_list (pe_dget (hu_of hr) (pv 0) pe_str (fun _ _ => rfl))) (blkOk_by (N := n_kept) (sc := fnScope s_kept) (by decide +kernel)) (fun _ _ _ _ _ => (pg_name (i := 7) sc_kept.nd rfl (.inr rfl))) (fun _ _ _ _ _ => pts_nil) (fun _ _ _ _ _ => (pe_lc (own := [("sign", 8)]) rfl sc_kept.nd (pi_str (pe_dget (hu_of hr) (pv 0) pe_str (fun _ _ => rfl))) (blkOk_by (N := n_kept) (sc := ncs_kept) (by decide +kernel)) (fun _ _ _ _ _ => (pg_name (i := 8) sc_kept.nd rfl (.inl rfl))) (fun _ _ _ _ _ => pts_nil) (fun _ _ _ _ _ => (pe_dget (hu_of hr) (pe_dget (hu_of hr) (pe_dget (hu_of hr) (pv 0) pe_str (fun _ _ => rfl)) (pv 7) (fun _ _ => rfl)) (pv 8) (fun _ _ => rfl))))))
      (pss_cons (ps_set (i := 2) sc_kept.nd rfl (.inl rfl) (pe_callTy (listK K) (by rfl) T.m_list PyProof.Rows.boot_list (pa_cons (pe_dget (hu_of hr) (pv 0) pe_str (fun _ _ => rfl)) pa_nil)))
      (pss_cons (ps_set (i := 3) sc_kept.nd rfl (.inl rfl) (pe_callB (call_reprF gd hr K) (by rfl) T.m_repr PyProof.Rows.boot_repr (pa_cons (pe_lst (pa_cons (pv 2) (pa_cons (pv 1) pa_nil))) pa_nil)))
      (pss_cons (ps_set (i := 4) sc_kept.nd rfl (.inl rfl) (pe_mk c_Reader hr (by decide) (by rfl) (pa_cons (pe_dget (hu_of hr) (pv 0) pe_str (fun _ _ => rfl)) (pa_cons (pv 2) (pa_cons (pe_dget (hu_of hr) (pv 0) pe_str (fun _ _ => rfl)) (pa_cons (pv 1) pa_nil))))))
      (pss_cons (ps_par (i := 5) (j := 6) rfl sc_kept.nd rfl rfl (by decide) rfl rfl (pa_cons (pe_callTy (call_strI c_str hr (by decide)) (by rfl) T.m_str PyProof.Rows.boot_str (pa_cons (pv 4) pa_nil)) (pa_cons (pe_callB (call_reprF gd hr K) (by rfl) T.m_repr PyProof.Rows.boot_repr (pa_cons (pe_c c_rch hr (by first | decide | omega) (by rfl) (pa_cons (pv 4) pa_nil)) pa_nil)) pa_nil)) rfl)
      (pss_cons (ps_if (pt_cmpR op_ne (pe_callB (call_reprF gd hr K) (by rfl) T.m_repr PyProof.Rows.boot_repr (pa_cons (pe_lst (pa_cons (pv 2) (pa_cons (pv 1) pa_nil))) pa_nil)) (pv 3) (nomark _)) 
        (pss_one (ps_ret pe_bl)
        )
       pss_nil)
      (pss_cons (ps_expr (pe_bm PySem.F.plainAttrs_list PySem.F.slot_list_append PySem.F.type_list_append mt_append (pv 2) (pa_cons pe_str pa_nil)))
      (pss_cons (ps_expr (pe_bm PySem.F.plainAttrs_list PySem.F.slot_list_append PySem.F.type_list_append mt_append (pe_ix (ixl K) (pv 1) pe_int (fun _ _ => rfl)) (pa_cons pe_str pa_nil)))
      (pss_cons (ps_expr (pe_bm PySem.F.plainAttrs_list PySem.F.slot_list_append PySem.F.type_list_append mt_append (pv 1) (pa_cons (pe_lst (pa_cons pe_str pa_nil)) pa_nil)))
      (pss_cons (ps_if (PW.pt (pw_or (pt_cmpR op_ne (pe_callTy (call_strI c_str hr (by decide)) (by rfl) T.m_str PyProof.Rows.boot_str (pa_cons (pv 4) pa_nil)) (pv 5) (nomark _)) (pw_or (pt_cmpR (op_neSs hr) (fldK K (pv 4) rfl) (pe_callTy (tupleK K) (by rfl) T.m_tuple PyProof.Rows.boot_tuple (pa_cons (pe_dget (hu_of hr) (pv 0) pe_str (fun _ _ => rfl)) pa_nil)) (nomark _)) (pw_or1 (pt_cmpR op_ne (pe_callB (call_reprF gd hr K) (by rfl) T.m_repr PyProof.Rows.boot_repr (pa_cons (pe_c c_rch hr (by first | decide | omega) (by rfl) (pa_cons (pv 4) pa_nil)) pa_nil)) (pv 6) (nomark _)))))) 
        (pss_one (ps_ret pe_bl)
        )
       pss_nil)
      (pss_one (ps_ret (pe_and (pe_cmpR op_eq (pe_callB (lenK K) (by rfl) T.m_len PySem.boot_len (pa_cons (fldK K (pv 4) rfl) pa_nil)) (pe_callB (lenK K) (by rfl) T.m_len PySem.boot_len (pa_cons (pe_dget (hu_of hr) (pv 0) pe_str (fun _ _ => rfl)) pa_nil)) (nomark _)) (pe_one (pe_cmpR op_eq (pe_callB (lenK K) (by rfl) T.m_len PySem.boot_len (pa_cons (pe_ix (ixt K) (fldK K (pv 4) rfl) pe_int (fun _ _ => rfl)) pa_nil)) (pe_callB call_len_str (by rfl) T.m_len PySem.boot_len (pa_cons (pe_dget (hu_of hr) (pv 0) pe_str (fun _ _ => rfl)) pa_nil)) (nomark _)))))
      ))))))))))), ?_⟩
    have hgd := hm.good (by decide)
    have h4 := hm.hms.2.2.1
    have h8 := hgd.h8
    have h3 := hgd.hsg.2.2.1
    refine seq_asg (lc_steps (σ := L2.start n_kept [.ref a]) (z := 0) (i := 7) (j := 8) rfl (by decide) (by decide) (by decide) (by show 7 < 9; decide) (by show 8 < 9; decide) t hgd fun D sa H1 s1 nD nsa hS => ?_)
    have t1 := t.same s1
    refine ⟨_, rfl, _, _, rfl, t1.marks, pm, txs ms, rfl, .inl (SqL.of t1.hpm), fun mk hmk => ?_⟩
    have nmk := s1.free hmk
    have s2 : Same H1 (upd H1 mk (.lst (txs ms))) := sm_new hmk
    have hmk2 : (upd H1 mk (.lst (txs ms))) mk = some (.lst (txs ms)) := upd_same
    have nDm : D ≠ mk := ne_of_none hS.1 hmk
    have nsm : ∀ x ∈ ms, sa x ≠ mk := fun x hx => ne_of_none (hS.2 x hx) hmk
    have hS2 : StepsAt sg ms tg D sa (upd H1 mk (.lst (txs ms))) := ⟨s2 _ _ hS.1, fun x hx => s2 _ _ (hS.2 x hx)⟩
    have s02 := s1.trans s2
    generalize upd H1 mk (.lst (txs ms)) = H2 at s2 hmk2 hS2 s02 ⊢
    clear hmk t1 hS s2 s1
    refine ⟨_, rfl, _, rfl, (by show 2 ≤ sizeLine; decide), fun l hl => ?_⟩
    have s3 : Same H2 (upd H2 l (.lst [.ref mk, .ref D])) := sm_new hl
    have hl3 : (upd H2 l (.lst [.ref mk, .ref D])) l = some (.lst [.ref mk, .ref D]) := upd_same
    generalize upd H2 l (.lst [.ref mk, .ref D]) = H3 at s3 hl3 ⊢
    refine ⟨l, _, 6, 400, rfl, dp_b hl3 (s3 _ _ hmk2) ⟨s3 _ _ hS2.1, fun x hx => s3 _ _ (hS2.2 x hx)⟩, hgd.fitB, by decide, by decide, ?_⟩
    have s03 := s02.trans s3
    have t3 := t.same s03
    refine ⟨_, rfl, _, _, rfl, t3.signs, _, rfl, _, rfl, _, _, rfl, t3.first, _, rfl, ?_⟩
    refine nil1 (mk_rdr (b := true) (c := true) (d := true) (f := f) (ms := ms) (tg := tg) (pa := sa) (s3 _ _ hmk2) (s3 _ _ hS2.1) (fun x hx => s3 _ _ (hS2.2 x hx)) hgd fun p H4 s4 np hr4 => ?_)
    obtain ⟨dx, m, st, nu, le, ra, la, co, ca, r4, hcol4⟩ := id hr4
    refine ⟨_, rfl, p, dx, _, rfl, r4.ha, ⟨p, sg, ms, f, tg, rfl, hr4, hgd, fun H5 s5 => ⟨_, rfl, ?_⟩⟩⟩
    have s05 := (s03.trans s4).trans s5
    refine ⟨_, rfl, p, sg, ms, f, tg, rfl, hr4.same s5, hgd, hT.ext s05, fun q ps H6 e6 hT6 h6 hl6 hq6 => ?_⟩
    refine ⟨q, _, 4, 200, rfl, dp_pr h6 hl6 hq6, pairs_fit hgd h4, by decide, by decide, ?_⟩
    refine ⟨_, _, rfl, ?_⟩
    have e26 : LamX.ExtN H2 H6 := (extN_same ((s3.trans s4).trans s5)).trans e6
    have e06 : LamX.ExtN H H6 := (extN_same s05).trans e6
    have nl : ∀ {xs : List V} (ps : Array Value), HO.lst xs ≠ .tbl ps := fun ps h => nomatch h
    have hmk6 : H6 mk = some (.lst (txs ms)) := e26 _ _ hmk2 nl
    have hS6 : StepsAt sg ms tg D sa H6 := ⟨e26 _ _ hS2.1 nl, fun x hx => e26 _ _ (hS2.2 x hx) nl⟩
    have hr6 : Rdr C H6 p sg ms f tg := hr4.nx (nx_ext ((extN_same s5).trans e6))
    clear hq6 hl6 h6 e6 s5 s4 s3 hl3 hl t3 s03 s05 hmk2 hS2 e26 np r4 hcol4 hr4 s02
    refine ⟨_, rfl, _, rfl, (by show 2 ≤ sizeLine; decide), fun l2 hl2 => ?_⟩
    have s7 : Same H6 (upd H6 l2 (.lst [.ref mk, .ref D])) := sm_new hl2
    have hl7 : (upd H6 l2 (.lst [.ref mk, .ref D])) l2 = some (.lst [.ref mk, .ref D]) := upd_same
    generalize upd H6 l2 (.lst [.ref mk, .ref D]) = H7 at s7 hl7 ⊢
    have hmk7 := s7 _ _ hmk6
    have hS7 : StepsAt sg ms tg D sa H7 := ⟨s7 _ _ hS6.1, fun x hx => s7 _ _ (hS6.2 x hx)⟩
    refine ⟨l2, _, 6, 400, rfl, dp_b hl7 hmk7 hS7, hgd.fitB, by decide, by decide, ?_⟩
    refine ⟨_, rfl, rfl, _, rfl, iteN (by simp) ?_⟩
    have e07 := e06.trans (extN_same s7)
    have hT7 := hT6.ext s7
    have hr7 := hr6.same s7
    clear hl7 s7 hmk6 hS6 e06 hT6 hr6 hl2
    refine ⟨_, rfl, .inl ⟨rfl, _, SqL.of hmk7⟩, mk, _, _, rfl, rfl, hmk7, by rw [txs_len]; exact small1000 (by omega), ?_⟩
    have e08 := ext_put (o := .lst (txs ms ++ [V.str (Str.ofString "qq")])) e07 nmk
    have hT8 := tabs_lset (ys := txs ms ++ [V.str (Str.ofString "qq")]) hmk7 hT7
    have hr8 := hr7.nl (nl_lset (ys := txs ms ++ [V.str (Str.ofString "qq")]) hmk7)
    have hS8 : StepsAt sg ms tg D sa (upd H7 mk (.lst (txs ms ++ [V.str (Str.ofString "qq")]))) := ⟨by rw [upd_ne nDm]; exact hS7.1, fun x hx => by rw [upd_ne (nsm x hx)]; exact hS7.2 x hx⟩
    show (fun H8 => _) (upd H7 mk (.lst (txs ms ++ [V.str (Str.ofString "qq")])))
    generalize upd H7 mk (.lst (txs ms ++ [V.str (Str.ofString "qq")])) = H8 at e08 hT8 hr8 hS8 ⊢
    clear hr7 hT7 e07 hS7 hmk7
    have hm0 : ms.getD 0 [] ∈ ms := by rw [List.getD_eq_getElem?_getD, List.getElem?_eq_getElem hgd.h1]; exact List.getElem_mem _
    have h0 : (ms.map fun x => V.ref (sa x))[0]? = some (.ref (sa (ms.getD 0 []))) := by
      rw [List.getElem?_map, List.getD_eq_getElem?_getD, List.getElem?_eq_getElem hgd.h1]; rfl
    generalize ms.getD 0 [] = x0 at hm0 h0
    have hx8 := hS8.2 x0 hm0
    have nDx : D ≠ sa x0 := fun e => by
      have h := hS8.1
      rw [e, hx8] at h
      have h2 := HO.lst.inj (Option.some.inj h)
      have h3 : (txs (sg.map (tg x0)))[0]? = some (.ref (sa x0)) := by rw [h2]; exact h0
      obtain ⟨_, _, h4⟩ := txs_get h3
      cases h4
    refine ⟨_, rfl, _, _, 0, _, rfl, rfl, SqL.of hS8.1, at_of rfl h0, .inl ⟨rfl, _, SqL.of hx8⟩, sa x0, _, _, rfl, rfl, hx8, by rw [txs_len, List.length_map]; exact small1000 (by omega), ?_⟩
    have e09 := ext_put (o := .lst (txs (sg.map (tg x0)) ++ [V.str (Str.ofString "qq")])) e08 (nsa x0 hm0)
    have hT9 := tabs_lset (ys := txs (sg.map (tg x0)) ++ [V.str (Str.ofString "qq")]) hx8 hT8
    have hr9 := hr8.nl (nl_lset (ys := txs (sg.map (tg x0)) ++ [V.str (Str.ofString "qq")]) hx8)
    have hD9 : (upd H8 (sa x0) (.lst (txs (sg.map (tg x0)) ++ [V.str (Str.ofString "qq")]))) D = some (.lst (ms.map fun x => .ref (sa x))) := by rw [upd_ne nDx]; exact hS8.1
    show (fun H9 => _) (upd H8 (sa x0) (.lst (txs (sg.map (tg x0)) ++ [V.str (Str.ofString "qq")])))
    generalize upd H8 (sa x0) (.lst (txs (sg.map (tg x0)) ++ [V.str (Str.ofString "qq")])) = H9 at e09 hT9 hr9 hD9 ⊢
    clear hr8 hT8 e08 hS8 hx8 h0
    refine ⟨_, rfl, .inl ⟨rfl, _, SqL.of hD9⟩, (by decide), fun l3 hl3 => ?_⟩
    have s10 : Same H9 (upd H9 l3 (.lst [.str (Str.ofString "qq")])) := sm_new hl3
    generalize upd H9 l3 (.lst [.str (Str.ofString "qq")]) = H10 at s10 ⊢
    have hD10 := s10 _ _ hD9
    refine ⟨D, _, _, rfl, rfl, hD10, by rw [List.length_map]; exact small1000 (by omega), ?_⟩
    have e11 := ext_put (o := .lst (ms.map (fun x => V.ref (sa x)) ++ [.ref l3])) (e09.trans (extN_same s10)) nD
    have hT11 := tabs_lset (ys := ms.map (fun x => V.ref (sa x)) ++ [.ref l3]) hD10 (hT9.ext s10)
    have hr11 := (hr9.same s10).nl (nl_lset (ys := ms.map (fun x => V.ref (sa x)) ++ [.ref l3]) hD10)
    show (fun H11 => _) (upd H10 D (.lst (ms.map (fun x => V.ref (sa x)) ++ [.ref l3])))
    generalize upd H10 D (.lst (ms.map (fun x => V.ref (sa x)) ++ [.ref l3])) = H11 at e11 hT11 hr11 ⊢
    clear hr9 hT9 e09 hD9 hl3 s10 hD10
    obtain ⟨dx', m', st', nu', le', ra', la', co', ca', r11, hcol11⟩ := id hr11
    refine ⟨_, rfl, p, dx', _, rfl, r11.ha, ⟨p, sg, ms, f, tg, rfl, hr11, hgd, fun H12 s12 => ⟨_, rfl, ?_⟩⟩⟩
    refine ⟨_, rfl, rfl, _, rfl, iteN (by simp) ?_⟩
    have r12 := r11.same s12
    have t12 := (t.ext e11).same s12
    refine ⟨_, rfl, p, C, dx', _, _, rfl, r12.ha, CH.cl, CH.nM, rl_marks, _, rfl, _, _, rfl, t12.marks, pm, txs ms, rfl, .inl ⟨SqL.of t12.hpm, fun tp htp => ?_⟩⟩
    have s13 : Same H12 (upd H12 tp (.tup (txs ms))) := sm_new htp
    refine ⟨m', tp, ms, ms, rfl, rfl, .inr ⟨SqT.of (s13 _ _ r12.hm), SqT.of upd_same⟩, hgd.small, hgd.small, _, rfl, iteN (by simp) ?_⟩
    have hr13 := (hr11.same s12).same s13
    have e13 := (e11.trans (extN_same s12)).trans (extN_same s13)
    have hT13 := (hT11.ext s12).ext s13
    generalize upd H12 tp (.tup (txs ms)) = H13 at hr13 e13 hT13 ⊢
    clear s13 r12 t12 s12 r11 hcol11 e11 hT11 hr11 htp
    refine ⟨_, rfl, p, sg, ms, f, tg, rfl, hr13, hgd, hT13, fun q2 ps2 H14 e14 hT14 h14 hl14 hq14 => ?_⟩
    refine ⟨q2, _, 4, 200, rfl, dp_pr h14 hl14 hq14, pairs_fit hgd h4, by decide, by decide, ?_⟩
    refine ⟨_, rfl, rfl, _, rfl, iteN (by simp) ?_⟩
    have hr14 := hr13.nx (nx_ext e14)
    have t14 := t.ext (e13.trans e14)
    obtain ⟨dx2, m2, st2, nu2, le2, ra2, la2, co2, ca2, r14, hcol14⟩ := id hr14
    have h0 : (ms.map fun x => V.ref (ra2 x))[0]? = some (.ref (ra2 (ms.getD 0 []))) := by
      rw [List.getElem?_map, List.getD_eq_getElem?_getD, List.getElem?_eq_getElem hgd.h1]; rfl
    have hm1 : ms.getD 0 [] ∈ ms := by rw [List.getD_eq_getElem?_getD, List.getElem?_eq_getElem hgd.h1]; exact List.getElem_mem _
    refine ⟨_, rfl, p, C, dx2, _, _, rfl, r14.ha, CH.cl, CH.nT, rl_steps, st2, _, rfl, .inr (SqT.of r14.hst), _, rfl, _, _, rfl, t14.marks, pm, _, rfl, .inl (SqL.of t14.hpm), rfl, _, rfl, ?_⟩
    refine iteB (by rw [List.length_map, txs_len]; simp) ?_
    refine ⟨_, rfl, p, C, dx2, _, _, rfl, r14.ha, CH.cl, CH.nT, rl_steps, st2, _, 0, _, rfl, rfl, SqT.of r14.hst, at_of rfl h0, ra2 (ms.getD 0 []), _, rfl, .inr (SqT.of (r14.hsa _ hm1)), _, rfl, _, _, rfl, t14.signs, S sg, rfl, by rw [S_len]; exact sz h3 (by decide), rfl, ?_⟩
    rw [txs_len, List.length_map, S_len, decide_eq_true rfl]
    exact k H14 (e13.trans e14) hT14
end
end Toy
set_option maxHeartbeats 4000000
namespace Toy
open PySem L2 C8 SX LX
section
variable {P : Program} {w : World} {K : PySem.W.Frag} {mg : Str → Option Value} {base : Heap}
abbrev s_law : Stmt := top 42
abbrev n_law : List Str := ["script", "base", "box", "told", "made", "signs", "row", "mark", "steps", "due", "turn", "sign", "other"]
theorem sc_law : FnScope n_law ["script"] (fnScope s_law) := fnScope_by (by decide +kernel)
def forBody : Stmt → List Stmt
  | .For _ _ b _ _ => b
  | _ => []
def callArg : Expr → Expr
  | .Call _ es _ _ => es.getD 0 (.Constant .none 0 ⟨0, 0, 0, 0⟩)
  | e => e
abbrev ncs_law : Scope := relS (outS (callArg (ofRet ((forBody ((fnBody s_law).getD 0 (.Pass ⟨0, 0, 0, 0⟩))).getD 5 (.Pass ⟨0, 0, 0, 0⟩))))) (fnScope s_law)
structure Live (TT : List NdefX.NTab) (C : Addr) (H H' : Hp) (b ta : Addr) (sg : List Nat) (ms : List (List Nat)) (f : List Nat) (tg : List Nat → Nat → List Nat) (pm pl : Addr) (ad : List Nat → Addr) (p : Addr) : Prop where
  nb : H b = none
  npm : pm ≠ b
  ext : LamX.ExtN H H'
  tabs : NdefX.TabsN TT H'
  box : BoxAt b H'
  told : Told H' ta sg ms f tg pm pl ad
  rdr : Rdr C H' p sg ms f tg
section
variable {TT : List NdefX.NTab} {C : Addr} {H H' H2 : Hp} {b ta : Addr} {sg : List Nat} {ms : List (List Nat)} {f : List Nat} {tg : List Nat → Nat → List Nat} {pm pl : Addr} {ad : List Nat → Addr} {p : Addr}
theorem box_same (hb : BoxAt b H) (s : Same H H') : BoxAt b H' := let ⟨o, e, h⟩ := hb; ⟨o, s _ _ e, h⟩
theorem nl_bx (hb : BoxAt b H) (s : Bx b H H') : NL H H' := fun a o e n => s.1 a o (fun z => by
  obtain ⟨o2, e2, x, y, w, rfl⟩ := hb
  rw [z, e2] at e
  exact n _ (Option.some.inj e).symm) e
theorem ext_bx (s : LamX.ExtN H H') (nb : H b = none) (q : Bx b H' H2) : LamX.ExtN H H2 := fun a o e n => q.1 a o (ne_of_none e nb) (s a o e n)
theorem tabs_bx (t : NdefX.TabsN TT H) (hb : BoxAt b H) (s : Bx b H H') : NdefX.TabsN TT H' := fun p hp => by
  obtain ⟨ps, h1, h2, h3⟩ := t p hp
  refine ⟨ps, nl_bx hb s _ _ h1 (by intro _ z; cases z), h2, fun pos cv hc => ?_⟩
  obtain ⟨c, e1, e2⟩ := h3 pos cv hc
  exact ⟨c, e1, nl_bx hb s _ _ e2 (by intro _ z; cases z)⟩
theorem ext_seq {K : PySem.W.Frag} {a : Addr} {xs : List V} (s : LamX.ExtN H H') (h : SqL K H a xs) : SqL K H' a xs := by
  rcases h with (h | ⟨o, h⟩) | h
  · exact .inl (.inl (s _ _ h (by intro _ z; cases z)))
  · exact .inl (.inr ⟨o, s _ _ h (by intro _ z; cases z)⟩)
  · exact .inr h
theorem Live.same (l : Live TT C H H' b ta sg ms f tg pm pl ad p) (s : Same H' H2) : Live TT C H H2 b ta sg ms f tg pm pl ad p :=
  ⟨l.nb, l.npm, l.ext.trans (extN_same s), l.tabs.ext s, box_same l.box s, l.told.same s, l.rdr.same s⟩
theorem Live.bx (l : Live TT C H H' b ta sg ms f tg pm pl ad p) (s : Bx b H' H2) : Live TT C H H2 b ta sg ms f tg pm pl ad p :=
  ⟨l.nb, l.npm, ext_bx l.ext l.nb s, tabs_bx l.tabs l.box s, s.2, l.told.bx s l.box l.npm, l.rdr.nl (nl_bx l.box s)⟩
theorem Live.more (l : Live TT C H H' b ta sg ms f tg pm pl ad p) (s : LamX.ExtN H' H2) (t : NdefX.TabsN TT H2) : Live TT C H H2 b ta sg ms f tg pm pl ad p :=
  ⟨l.nb, l.npm, l.ext.trans s, t, let ⟨o, e, x, y, z, h⟩ := l.box; ⟨o, s _ _ e (by intro _ q; rw [h] at q; cases q), x, y, z, h⟩, l.told.ext s, l.rdr.nx (nx_ext s)⟩
end
theorem lettersOf {sg : List Nat} : ∀ {ys : List V}, (∀ (j : Nat) y, ys[j]? = some y → ∃ c, y = .str (S [c]) ∧ c ∈ sg) → ∃ l : List Nat, l.length = ys.length ∧ Ov sg l ∧ ys = l.map fun c => V.str (S [c])
  | [], _ => ⟨[], rfl, (fun _ h => nomatch h), rfl⟩
  | y :: ys, h => by
    obtain ⟨l, h1, h2, h3⟩ := lettersOf (ys := ys) fun j z e => h (j + 1) z e
    obtain ⟨c, e, hc⟩ := h 0 y rfl
    refine ⟨c :: l, by simp [h1], fun d hd => ?_, by rw [e, h3]; rfl⟩
    rcases List.mem_cons.mp hd with rfl | hd
    · exact hc
    · exact h2 d hd
theorem lc_stepsT {σ : L2.St} {H : Hp} {Q : VK} {a : Addr} {sg : List Nat} {ms : List (List Nat)} {f : List Nat} {tg : List Nat → Nat → List Nat} {pm pl : Addr} {ad : List Nat → Addr} {z y i j : Nat} (hz : σ[z]? = some (some (.ref a))) (hy : σ[y]? = some (some (.str (S sg)))) (hzi : i ≠ z) (hzj : j ≠ z) (hyi : i ≠ y) (hij : j ≠ i) (hi : i < σ.length) (hj : j < σ.length)
    (t : Told H a sg ms f tg pm pl ad) (hgd : Good sg ms f tg) (k : ∀ (D : Addr) (sa : List Nat → Addr) (H' : Hp), Same H H' → H D = none → H' D = some (.lst (ms.map fun x => .ref (sa x))) → (∀ x ∈ ms, H' (sa x) = some (.tup (txs (sg.map (tg x))))) → Q (.ref D) H') :
    tLc (iList K (tDGet (tVar z) (tC (V.str (Str.ofString "marks"))))) (gName i) tYes (tCB (fun xs H Q => ∃ p ys, xs = [V.ref p] ∧ ((SqL K H p ys ∧ ∀ l, H l = none → Q (V.ref l) (upd H l (.tup ys))) ∨ (SqT K H p ys ∧ Q (V.ref p) H))) (tCons (tLc (iStr (tVar y)) (gName j) tYes (tDGet (tDGet (tDGet (tVar z) (tC (V.str (Str.ofString "leads")))) (tVar i)) (tVar j)) [j]) tNil)) [i] σ H Q := by
  have h8 := hgd.h8
  refine ⟨_, hz, _, _, rfl, t.marks, pm, rfl, ⟨_, SqL.of t.hpm⟩, fun D hD => ?_⟩
  refine lc_keepH keep_same (walk_list (K := K) (a := pm) (xs := txs ms)) hD (by rw [txs_len]; exact small1000 (by omega)) (fun j y H' => ∃ p, y = .ref p ∧ ∀ mm, ms[j]? = some mm → H' p = some (.tup (txs (sg.map (tg mm))))) (fun H r => SqL.of (r _ _ t.hpm))
    (fun _ _ _ _ _ r1 ⟨p, e, h⟩ => ⟨p, e, fun mm hm => r1 _ _ (h mm hm)⟩) (fun _ _ _ _ _ _ hDa ⟨p, e, h⟩ => ⟨p, e, fun mm hm => by rw [upd_ne (ne_of (h mm hm) hDa (by intro h; cases h))]; exact h mm hm⟩) (fun ii x H2 H2' acc R hii r2 hDa hyy hR => ?_) (fun ys H2 hly hg r2 hDs => ?_)
  · obtain ⟨rfl, e⟩ := hyy
    obtain ⟨mm, em, rfl⟩ := txs_get e
    have hmem := List.mem_of_getElem? em
    have t2 := t.same r2
    have s1 : (σ.set i none).set i (some (V.str (S mm))) = σ.set i (some (V.str (S mm))) := List.set_set ..
    refine ⟨by show (((σ.set i none).set i _).set i none) = σ.set i none; rw [List.set_set, List.set_set], ?_⟩
    show tCB _ (tCons (tLc (iStr (tVar y)) (gName j) tYes (tDGet (tDGet (tDGet (tVar z) (tC (V.str (Str.ofString "leads")))) (tVar i)) (tVar j)) [j]) tNil) ((σ.set i none).set i (some (V.str (S mm)))) _ R
    rw [s1]
    have hz1 : (σ.set i (some (V.str (S mm))))[z]? = some (some (.ref a)) := by rw [List.getElem?_set_ne hzi]; exact hz
    have hy1 : (σ.set i (some (V.str (S mm))))[y]? = some (some (.str (S sg))) := by rw [List.getElem?_set_ne hyi]; exact hy
    refine ⟨_, hy1, S sg, rfl, fun D2 hD2 => lc_keep keep_same walk_str hD2 (by show sg.length < sizeLine; exact small1000 (by have := hgd.hsg.2.2.1; omega)) (fun j y => ∀ c, sg[j]? = some c → y = .str (S (tg mm c))) (fun _ _ => trivial) (fun jj zz H3 H4 R2 hjj r3 hyy hR2 => ?_) (fun zs H3 hlz hgz r3 hDz => ?_)⟩
    · obtain ⟨rfl, c, hc, rfl⟩ := hyy
      have hc' : sg[jj]? = some c := by simpa [S] using hc
      have t3 := t2.same r3
      refine ⟨by show ((((σ.set i _).set j none).set j _).set j none) = (σ.set i _).set j none; rw [List.set_set, List.set_set], ?_⟩
      have e2 : ((σ.set i (some (V.str (S mm)))).set j none).set j (some (V.str ⟨#[c]⟩)) = (σ.set i (some (V.str (S mm)))).set j (some (V.str ⟨#[c]⟩)) := List.set_set ..
      show tDGet (tDGet (tDGet (tVar z) (tC (V.str (Str.ofString "leads")))) (tVar i)) (tVar j) (((σ.set i (some (V.str (S mm)))).set j none).set j (some (V.str ⟨#[c]⟩))) _ R2
      rw [e2]
      have hz2 : ((σ.set i (some (V.str (S mm)))).set j (some (V.str ⟨#[c]⟩)))[z]? = some (some (.ref a)) := by rw [List.getElem?_set_ne hzj]; exact hz1
      have hi2 : ((σ.set i (some (V.str (S mm)))).set j (some (V.str ⟨#[c]⟩)))[i]? = some (some (V.str (S mm))) := by rw [List.getElem?_set_ne hij, List.getElem?_set_self hi]
      have hj2 : ((σ.set i (some (V.str (S mm)))).set j (some (V.str ⟨#[c]⟩)))[j]? = some (some (V.str ⟨#[c]⟩)) := List.getElem?_set_self (by rw [List.length_set]; exact hj)
      refine ⟨_, hz2, _, _, rfl, t3.leads, ?_⟩
      refine ⟨_, hi2, _, _, rfl, t3.mark hmem, ?_⟩
      refine ⟨_, hj2, _, _, rfl, t3.at_ hmem (List.mem_of_getElem? hc'), ?_⟩
      exact hR2 _ _ (Same.refl _) fun c' h => by rw [Option.some.inj (hc'.symm.trans h)]
    · have ez : zs = txs (sg.map (tg mm)) := by
        unfold txs; rw [List.map_map]
        exact list_map hlz fun j y c e1 e2 => hgz j y e1 c e2
      subst ez
      refine nil1 ⟨D2, _, rfl, .inl ⟨SqL.of hDz, fun st hst => ?_⟩⟩
      exact hR _ _ (r3.trans (sm_new hst)) ⟨st, rfl, fun m2 h2 => by rw [em] at h2; cases h2; exact upd_same⟩
  rw [txs_len] at hly
  obtain ⟨sa, hsa⟩ := fun_of (γ := Addr) hgd.hnd (P := fun j mm t => ys[j]? = some (V.ref t) ∧ H2 t = some (.tup (txs (sg.map (tg mm))))) fun j mm hj => by
    have hjl : j < ys.length := by rw [hly]; exact (List.getElem?_eq_some_iff.mp hj).1
    obtain ⟨t, e, h⟩ := hg j _ (List.getElem?_eq_getElem hjl)
    exact ⟨t, by rw [List.getElem?_eq_getElem hjl, e], h mm hj⟩
  have eys : ys = ms.map fun x => V.ref (sa x) := list_map hly fun j y x e1 e2 => by have := (hsa j x e2).1; rw [e1] at this; exact Option.some.inj this
  subst eys
  exact k D sa H2 r2 hD hDs fun x hx => by obtain ⟨j, hj⟩ := List.getElem?_of_mem hx; exact (hsa j x hj).2
def rdD (sg : List Nat) (ms : List (List Nat)) (f : List Nat) (xss : List (List (List Nat))) : PyData := .list [.str (S sg), tD ms, .str (S f), ttD xss]
theorem Good.fitR {sg : List Nat} {ms : List (List Nat)} {f : List Nat} {tg : List Nat → Nat → List Nat} (g : Good sg ms f tg) : Fit 6 1000 (rdD sg ms f (stepsL sg ms tg)) := by
  have h3 := g.hsg.2.2.1
  have hf6 := g.len g.hf
  refine (Fit.lst (k := 4) (n := 200) (m := 4) (fun d hd => ?_) (by show 4 ≤ 4; decide)).mono (by decide) (by decide)
  rcases List.mem_cons.mp hd with rfl | hd
  · exact Fit.text (fun c hc => by have := g.hsg.2.2.2 c hc; omega) (by omega)
  rcases List.mem_cons.mp hd with rfl | hd
  · exact (fit_t g.small (fun l hl => g.len hl) g.h8 (n := 6)).mono (by decide) (by decide)
  rcases List.mem_cons.mp hd with rfl | hd
  · exact Fit.text (name_small (g.hnm _ g.hf)) (by omega)
  · rw [List.mem_singleton.mp hd]; exact g.fit
theorem dp_r {K : PySem.W.Frag} {H : Hp} {l m st : Addr} {sg : List Nat} {ms : List (List Nat)} {f : List Nat} {tg : List Nat → Nat → List Nat} {sa : List Nat → Addr} (hl : H l = some (.lst [.str (S sg), .ref m, .str (S f), .ref st])) (hm : H m = some (.tup (txs ms))) (hst : H st = some (.tup (ms.map fun x => .ref (sa x)))) (hsa : ∀ x ∈ ms, H (sa x) = some (.tup (txs (sg.map (tg x))))) :
    Dp K H (.ref l) (rdD sg ms f (stepsL sg ms tg)) := by
  refine .lst (SqL.of hl) (.cons (.str _) (.cons (dp_t (SqT.of hm)) (.cons (.str _) (.cons (.tup (SqT.of hst) ?_) .nil))))
  unfold stepsL
  rw [List.map_map]
  exact dpAll_get fun x hx => dp_t (SqT.of (hsa x hx))
theorem nxt {D : Ends} {σ : L2.St} {H : Hp} (h : D.nx σ H) : tNext D σ H := h
theorem cb1 {r : List V → Hp → VK → Prop} {te : TE} {σ : L2.St} {H : Hp} {Q : VK} (h : te σ H fun x H1 => r [x] H1 Q) : tCB r (tCons te tNil) σ H Q := h
def spLaw (TT : List NdefX.NTab) (K : PySem.W.Frag) : Sp := fun vs H Q _ => ∃ (a : Addr) (ns : List Int), vs = [.ref a] ∧ SqL K H a (ns.map V.int) ∧ ns.length ≤ 63 ∧ NdefX.TabsN TT H ∧ ∀ H', Q (.bl true) H'
theorem ok_law {C : Addr} {TT : List NdefX.NTab} (T : BT mg) (CH : CR K C) (mgC : mg "Reader" = some (.ref C)) (nC : NeC K C) (insC : InsC K C) (c_box : Cal P w K mg base 1 "_law_box" (spBox K) []) (c_signs : Cal P w K mg base 3 "_law_signs" spSigns []) (c_drawn : Cal P w K mg base 3 "_law_drawn" spDrawn [])
    (c_made : Cal P w K mg base 7 "_law_made" (spMade C) []) (c_rows : Cal P w K mg base 1 "_law_rows" spRows []) (c_pick : Cal P w K mg base 2 "_law_pick" (spPick K) []) (c_m_read : Met P w K mg base 3 C "read" (spMRead C) []) (c_led : Cal P w K mg base 1 "_law_led" spLed []) (c_m_led : Met P w K mg base 2 C "led" (spMLed C) [])
    (c_rch : Cal P w K mg base 4 "reached" (spReached C TT) []) (c_lreached : Cal P w K mg base 2 "_law_reached" spLawReached []) (c_Reader : Mak P w K mg base 5 "Reader" C (spInit C) []) (c_eq : Met P w K mg base 1 C "__eq__" (spEqR K C) []) (c_str : Met P w K mg base 2 C "__str__" (spStr C) []) (c_others : Cal P w K mg base 7 "_law_others" (spOthers C) [])
    (c_kept : CalG P w K mg base 7 "_law_kept_right" (spKept TT)) (kT : PySem.W.kitOne K (.type "tuple") (.ref C) = some false) (kS : PySem.W.kitOne K (.type "str") (.ref C) = some false) (fT : PySem.W.notFirst K C (.type "tuple") = true) (fS : PySem.W.notFirst K C (.type "str") = true)
    {f : Addr} {fd : FuncData} (F : Def K mg "law" s_law f fd) : FnG P w K mg base 8 f fd ["script"] (spLaw TT K) := by
  refine fnG0 F.fn sc_law (fun vs H Q E h => ?_) (fun cd A ou t0 H vs Q E gd hr h => ?_)
  · obtain ⟨a, ns, rfl, _⟩ := h; rfl
  · obtain ⟨a, ns, rfl, ha, hl, hT, kk⟩ := h
    refine ⟨_, (pss_cons (ps_for PassesOwn.never rfl (pi_range1 (by rfl) T.m_range (pa_cons (pe_callB (call_max2 rfl) (by rfl) T.m_max PyProof.Rows.boot_max (pa_cons pe_int (pa_cons (pe_callB (call_min2 rfl) (by rfl) T.m_min PyProof.Rows.boot_min (pa_cons pe_int (pa_cons (pe_callB (lenK K) (by rfl) T.m_len PySem.boot_len (pa_cons (pv 0) pa_nil)) pa_nil))) pa_nil))) pa_nil)) (pg_name (i := 1) sc_law.nd rfl (.inl rfl)) 
        (pss_cons (ps_set (i := 2) sc_law.nd rfl (.inr rfl) (pe_c c_box hr (by first | decide | omega) (by rfl) (pa_cons (pv 0) (pa_cons (pv 1) pa_nil))))
        (pss_cons (ps_set (i := 3) sc_law.nd rfl (.inr rfl) (pe_c c_drawn hr (by first | decide | omega) (by rfl) (pa_cons (pv 2) (pa_cons (pe_c c_signs hr (by first | decide | omega) (by rfl) (pa_cons (pv 2) pa_nil)) (pa_cons pe_int pa_nil)))))
        (pss_cons (ps_asg (pe_tup (pa_cons (pe_c c_made hr (by first | decide | omega) (by rfl) (pa_cons (pv 3) pa_nil)) (pa_cons (pe_dget (hu_of hr) (pv 3) pe_str (fun _ _ => rfl)) pa_nil))) (tupK K 2 (pgs_cons (pg_name (i := 4) sc_law.nd rfl (.inr rfl)) (pgs_cons (pg_name (i := 5) sc_law.nd rfl (.inr rfl)) pgs_nil))))
        (pss_cons (ps_for PassesOwn.never rfl (pi_list (pe_op op_cat (pe_c c_rows hr (by first | decide | omega) (by rfl) (pa_cons (pv 5) (pa_cons pe_int pa_nil))) (pe_lst (pa_cons (pe_join pe_str (pe_lc (own := [("turn", 10)]) rfl sc_law.nd (pi_range1 (by rfl) T.m_range (pa_cons pe_int pa_nil)) (blkOk_by (N := n_law) (sc := fnScope s_law) (by decide +kernel)) (fun _ _ _ _ _ => (pg_name (i := 10) sc_law.nd rfl (.inl rfl))) (fun _ _ _ _ _ => pts_nil) (fun _ _ _ _ _ => (pe_c c_pick hr (by first | decide | omega) (by rfl) (pa_cons (pv 2) (pa_cons (pe_callTy (LX.call_list_str rfl) (by rfl) T.m_list PyProof.Rows.boot_list (pa_cons (pv 5) pa_nil)) pa_nil)))))) pa_nil)))) (pg_name (i := 6) sc_law.nd rfl (.inl rfl)) 
          (pss_cons (ps_if (pt_cmpR op_ne (pe_mt c_m_read hr (by decide) (pv 4) (pa_cons (pv 6) pa_nil)) (pe_c c_led hr (by first | decide | omega) (by rfl) (pa_cons (pv 3) (pa_cons (pe_dget (hu_of hr) (pv 3) pe_str (fun _ _ => rfl)) (pa_cons (pv 6) pa_nil)))) (nomark _)) 
            (pss_one (ps_ret pe_bl)
            )
           pss_nil)
          (pss_cons (ps_set (i := 7) sc_law.nd rfl (.inl rfl) (pe_c c_pick hr (by first | decide | omega) (by rfl) (pa_cons (pv 2) (pa_cons (pe_dget (hu_of hr) (pv 3) pe_str (fun _ _ => rfl)) pa_nil))))
          (pss_one (ps_if (pt_cmpR op_ne (pe_mt c_m_led hr (by decide) (pv 4) (pa_cons (pv 7) (pa_cons (pv 6) pa_nil))) (pe_c c_led hr (by first | decide | omega) (by rfl) (pa_cons (pv 3) (pa_cons (pv 7) (pa_cons (pv 6) pa_nil)))) (nomark _)) 
            (pss_one (ps_ret pe_bl)
            )
           pss_nil)
          ))))
        (pss_cons (ps_if (pt_cmpR op_ne (pe_callB (call_reprF gd hr K) (by rfl) T.m_repr PyProof.Rows.boot_repr (pa_cons (pe_c c_rch hr (by first | decide | omega) (by rfl) (pa_cons (pv 4) pa_nil)) pa_nil)) (pe_callB (call_reprF gd hr K) (by rfl) T.m_repr PyProof.Rows.boot_repr (pa_cons (pe_c c_lreached hr (by first | decide | omega) (by rfl) (pa_cons (pv 3) pa_nil)) pa_nil)) (nomark _)) 
          (pss_one (ps_ret pe_bl)
          )
         pss_nil)
        (pss_cons (ps_set (i := 8) sc_law.nd rfl (.inl rfl) (pe_callTy (tupleK K) (by rfl) T.m_tuple PyProof.Rows.boot_tuple (pa_cons (pe_lc (own := [("mark", 7)]) rfl sc_law.nd (pi_list (pe_dget (hu_of hr) (pv 3) pe_str (fun _ _ => rfl))) (blkOk_by (N := n_law) (sc := fnScope s_law) (by decide +kernel)) (fun _ _ _ _ _ => (pg_name (i := 7) sc_law.nd rfl (.inr rfl))) (fun _ _ _ _ _ => pts_nil) (fun _ _ _ _ _ => (pe_callTy (tupleK K) (by rfl) T.m_tuple PyProof.Rows.boot_tuple (pa_cons (pe_lc (own := [("sign", 11)]) rfl sc_law.nd (pi_str (pv 5)) (blkOk_by (N := n_law) (sc := ncs_law) (by decide +kernel)) (fun _ _ _ _ _ => (pg_name (i := 11) sc_law.nd rfl (.inl rfl))) (fun _ _ _ _ _ => pts_nil) (fun _ _ _ _ _ => (pe_dget (hu_of hr) (pe_dget (hu_of hr) (pe_dget (hu_of hr) (pv 3) pe_str (fun _ _ => rfl)) (pv 7) (fun _ _ => rfl)) (pv 11) (fun _ _ => rfl)))) pa_nil)))) pa_nil)))
        (pss_cons (ps_set (i := 9) sc_law.nd rfl (.inl rfl) (pe_lst (pa_cons (pv 5) (pa_cons (pe_callTy (tupleK K) (by rfl) T.m_tuple PyProof.Rows.boot_tuple (pa_cons (pe_dget (hu_of hr) (pv 3) pe_str (fun _ _ => rfl)) pa_nil)) (pa_cons (pe_dget (hu_of hr) (pv 3) pe_str (fun _ _ => rfl)) (pa_cons (pv 8) pa_nil))))))
        (pss_cons (ps_if (pt_cmpR op_ne (pe_callB (call_reprF gd hr K) (by rfl) T.m_repr PyProof.Rows.boot_repr (pa_cons (pe_lst (pa_cons (fldK K (pv 4) rfl) (pa_cons (fldK K (pv 4) rfl) (pa_cons (fldK K (pv 4) rfl) (pa_cons (fldK K (pv 4) rfl) pa_nil))))) pa_nil)) (pe_callB (call_reprF gd hr K) (by rfl) T.m_repr PyProof.Rows.boot_repr (pa_cons (pv 9) pa_nil)) (nomark _)) 
          (pss_one (ps_ret pe_bl)
          )
         pss_nil)
        (pss_cons (ps_if (PW.pt (pw_or (pt_cmpR (op_neI nC c_eq hr (by decide)) (pv 4) (pe_mk c_Reader hr (by decide) (by rfl) (pa_cons (pv 5) (pa_cons (pe_callTy (tupleK K) (by rfl) T.m_tuple PyProof.Rows.boot_tuple (pa_cons (pe_dget (hu_of hr) (pv 3) pe_str (fun _ _ => rfl)) pa_nil)) (pa_cons (pe_dget (hu_of hr) (pv 3) pe_str (fun _ _ => rfl)) (pa_cons (pv 8) pa_nil))))) (nomark _)) (pw_or (pt_cmpR (op_eqIV c_eq hr (by decide)) (pv 4) (pv 8) (nomark _)) (pw_or1 (pt_cmpR (op_eqIV c_eq hr (by decide)) (pv 4) (pe_callTy (call_strI c_str hr (by decide)) (by rfl) T.m_str PyProof.Rows.boot_str (pa_cons (pv 4) pa_nil)) (nomark _)))))) 
          (pss_one (ps_ret pe_bl)
          )
         pss_nil)
        (pss_one (ps_if (PW.pt (pw_or (pt_cmpR (op_neSs hr) (pe_lc (own := [("other", 12)]) rfl sc_law.nd (pi_list (pe_c c_others hr (by first | decide | omega) (by rfl) (pa_cons (pv 3) pa_nil))) (blkOk_by (N := n_law) (sc := fnScope s_law) (by decide +kernel)) (fun _ _ _ _ _ => (pg_name (i := 12) sc_law.nd rfl (.inl rfl))) (fun _ _ _ _ _ => pts_one (pt_cmpR (op_eqI c_eq hr (by decide)) (pv 12) (pv 4) (nomark _))) (fun _ _ _ _ _ => (pv 12))) (pe_lst pa_nil) (nomark _)) (pw_or1 (pt_not (pt_val (pe_cG c_kept gd hr (by first | decide | omega) (by rfl) (pa_cons (pv 3) pa_nil))))))) 
          (pss_one (ps_ret pe_bl)
          )
         pss_nil)
        )))))))))))
      (pss_one (ps_ret pe_bl)
      )), ?_⟩
    refine ⟨_, rfl, a, _, rfl, .inl ha, _, _, rfl, _, _, rfl, _, rfl, ?_⟩
    rw [List.length_map]
    have hM : 0 ≤ (if (if (ns.length : Int) < 4 then (ns.length : Int) else 4) > 2 then (if (ns.length : Int) < 4 then (ns.length : Int) else 4) else 2) ∧ (if (if (ns.length : Int) < 4 then (ns.length : Int) else 4) > 2 then (if (ns.length : Int) < 4 then (ns.length : Int) else 4) else 2) ≤ 4 := by
      split <;> split <;> omega
    generalize (if (if (ns.length : Int) < 4 then (ns.length : Int) else 4) > 2 then (if (ns.length : Int) < 4 then (ns.length : Int) else 4) else 2) = M at hM ⊢
    refine ⟨by omega, by omega, ?_⟩
    refine for_it (walk_range (lo := 0)) (fun i σ H' => (∃ s1 s2 s3 s4 s5 s6 s7 s8 s9 s10 s11 s12 : Option V, σ = [some (.ref a), s1, s2, s3, s4, s5, s6, s7, s8, s9, s10, s11, s12]) ∧ LamX.ExtN H H' ∧ NdefX.TabsN TT H')
      ⟨⟨_, _, _, _, _, _, _, _, _, _, _, _, rfl⟩, LamX.ExtN.refl _, hT⟩ (fun _ _ _ _ _ => trivial) ?_ ?_
    · rintro i x σ H1 H1' hi ⟨⟨s1, s2, s3, s4, s5, s6, s7, s8, s9, s10, s11, s12, rfl⟩, e1, hT1⟩ ⟨rfl, rfl⟩
      have hi4 : i < 4 := by omega
      clear hi hM
      refine ⟨_, rfl, _, rfl, a, i, ns, by show [V.ref a, V.int (0 + (i : Int))] = _; rw [Int.zero_add], ext_seq e1 ha, hl, by omega, fun b H2 h2 nb hB => ?_⟩
      refine ⟨_, rfl, _, rfl, b, rfl, hB, fun sg H3 hsg hB3 => ⟨b, sg, 4, rfl, hsg, by decide, by decide, hB3.2, fun ta ms f tg pm pl ad H4 hm hB4 na npm npl nad told4 => ?_⟩⟩
      have hgd := hm.good (by decide)
      have h4 := hm.hms.2.2.1
      have h3 := hgd.hsg.2.2.1
      have npmb : pm ≠ b := box_ne hB3.2 npm
      have hB24 := hB3.trans hB4
      refine ⟨_, rfl, ta, sg, ms, f, tg, pm, pl, ad, rfl, told4, hgd, fun p H5 s5 np hr5 => ⟨_, rfl, _, _, rfl, (told4.same s5).signs, (by show 2 ≤ sizeLine; decide), fun tp htp => ?_⟩⟩
      have L5 : Live TT C _ H5 b ta sg ms f tg pm pl ad p := ⟨nb, npmb, (ext_bx (extN_same h2) nb hB24).trans (extN_same s5), (tabs_bx (hT1.ext h2) hB hB24).ext s5, box_same hB24.2 s5, told4.same s5, hr5⟩
      have s6 := sm_new (o := .tup [.ref p, .str (S sg)]) htp
      refine ⟨tp, _, rfl, .inl (.inl upd_same), rfl, _, _, rfl, _, _, rfl, rfl, ?_⟩
      have L6 := L5.same s6
      show (fun H6 => _) (upd H5 tp (.tup [.ref p, .str (S sg)]))
      generalize upd H5 tp (.tup [.ref p, .str (S sg)]) = H6 at L6 ⊢
      clear s6 L5 htp hr5 np s5 hB24 told4 na npl nad npm hB4 hB3 hB h2 hT1
      refine ⟨_, rfl, sg, 4, rfl, h3, by decide, fun rp H7 s7 n7 h7 => ?_⟩
      have L7 := L6.same s7
      refine ⟨⟨_, rfl⟩, 60, rfl, by decide, by decide, fun D hD => ?_⟩
      refine lc_keep (keep_bk L7.box) (walk_range (lo := 0) (n := 60)) hD (by decide) (fun _ y => ∃ c, y = .str (S [c]) ∧ c ∈ sg) (fun _ _ => trivial) (fun j x H8 H9 R hj r hy hR => ?_) (fun ys H8 hly hg r hDs => ?_)
      · obtain ⟨rfl, rfl⟩ := hy
        refine ⟨rfl, ?_⟩
        refine ⟨_, rfl, _, rfl, sg, rfl, sz h3 (by decide), fun lp hlp => ?_⟩
        have hb9 : Bx b _ (upd _ lp (.lst (sg.map fun c => V.str (S [c])))) := Bx.put (bk_same (Same.refl _) r.2) r.2 hlp
        refine ⟨b, lp, _, rfl, hb9.2, box_ne r.2 hlp, SqL.of upd_same, by rw [List.length_map]; have := hgd.hsg.2.1; omega, by rw [List.length_map]; omega, fun v H10 hv hB10 => hR _ _ (hb9.trans hB10) ?_⟩
        obtain ⟨c, hc, rfl⟩ := List.mem_map.mp hv
        exact ⟨c, rfl, hc⟩
      obtain ⟨l, hl60, hol, rfl⟩ := lettersOf hg
      rw [hly] at hl60
      have hl60 : l.length = 60 := hl60
      have L8 := L7.bx r
      have hrp8 : H8 rp = some (.lst (txs (upto sg 4))) := r.1 _ _ (box_ne L6.box n7) h7
      clear hg hly
      refine ⟨_, D, l.map fun c => S [c], rfl, rfl, .inl (SqL.of (by rw [hDs, List.map_map]; rfl)), by rw [sums_singles, s_nil, S_len]; simp; omega, ?_⟩
      rw [s_nil, join_singles]
      refine ⟨(by show 1 ≤ sizeLine; decide), fun lp hlp => ?_⟩
      have s9' : Same H8 (upd H8 lp (.lst [.str (S l)])) := sm_new hlp
      have hul := upto_len h3 4
      have hul2 : (upto sg 4).length ≤ 162 := Nat.le_trans hul (by decide)
      refine ⟨rp, lp, txs (upto sg 4), [.str (S l)], rfl, rfl, s9' _ _ hrp8, upd_same, by rw [txs_len]; exact sz (m := 200) (by simp; omega) (by decide), fun ap hap => ?_⟩
      have eap : (upd (upd H8 lp (.lst [.str (S l)])) ap (.lst (txs (upto sg 4) ++ [.str (S l)]))) ap = some (.lst (txs (upto sg 4 ++ [l]))) := by rw [upd_same]; unfold txs; rw [List.map_append]; rfl
      have s10' := s9'.trans (sm_new (o := .lst (txs (upto sg 4) ++ [V.str (S l)])) hap)
      have L10 := L8.same s10'
      have napb : ap ≠ b := box_ne (L8.same s9').box hap
      have hro : ∀ r ∈ upto sg 4 ++ [l], Ov sg r ∧ r.length ≤ 60 := fun r hr => by
        rcases List.mem_append.mp hr with h | h
        · obtain ⟨q1, q2⟩ := upto_row h
          exact ⟨q2, by omega⟩
        · rw [List.mem_singleton.mp h]; exact ⟨hol, by omega⟩
      generalize upd (upd H8 lp (.lst [.str (S l)])) ap (.lst (txs (upto sg 4) ++ [V.str (S l)])) = H10 at eap s10' L10 ⊢
      generalize upto sg 4 ++ [l] = RL at eap hro
      clear s10' hap s9' hlp hrp8 L8 hDs hD r L7 L6 hol hl60
      refine ⟨ap, rfl, ⟨_, SqL.of eap⟩, for_it (walk_list (K := K) (a := ap) (xs := txs RL)) (fun j σ H' => (∃ s6 s7 s8 s9 s10 s11 s12 : Option V, σ = [some (.ref a), some (.int (0 + (i : Int))), some (.ref b), some (.ref ta), some (.ref p), some (.str (S sg)), s6, s7, s8, s9, s10, s11, s12]) ∧ Bx b H10 H')
        ⟨⟨_, _, _, _, _, _, _, rfl⟩, bk_same (Same.refl _) L10.box⟩ (fun j σ H' _ hh => SqL.of (hh.2.1 _ _ napb eap)) ?_ ?_⟩
      · clear s1 s2 s3 s4 s5 s6 s8 s9 s10 s11 s12
        rintro j x σ H11 H11' hj ⟨⟨s6, s7, s8, s9, s10, s11, s12, rfl⟩, hB11⟩ ⟨rfl, ex⟩
        obtain ⟨row, hrow, rfl⟩ := txs_get ex
        obtain ⟨ho, hl60⟩ := hro row (List.mem_of_getElem? hrow)
        have L11 := L10.bx hB11
        obtain ⟨dx, m, st, nu, le, ra, la, co, ca, r11, hcol11⟩ := id L11.rdr
        refine ⟨_, rfl, p, dx, _, rfl, r11.ha, rdr_no (.inr ⟨co, rfl⟩) (by decide +kernel), _, rfl, p, sg, ms, f, tg, row, rfl, L11.rdr, hgd, ho, by omega, fun H12 s12' => ?_⟩
        have L12 := L11.same s12'
        refine ⟨_, rfl, _, rfl, _, _, rfl, L12.told.first, _, rfl, ta, sg, ms, f, tg, pm, pl, ad, f, row, rfl, L12.told, hgd.htg, hgd.hf, ho, rfl, _, rfl, iteN (by simp) ?_⟩
        refine ⟨_, rfl, _, rfl, _, _, rfl, L12.told.marks, b, pm, txs ms, rfl, L12.box, npmb, SqL.of L12.told.hpm, by rw [txs_len]; exact hgd.h1, by rw [txs_len]; omega, fun v H13 hv hB13 => ?_⟩
        have L13 := L12.bx hB13
        unfold txs at hv
        obtain ⟨mk, hmk, rfl⟩ := List.mem_map.mp hv
        obtain ⟨dx', m', st', nu', le', ra', la', co', ca', r13, hcol13⟩ := id L13.rdr
        refine ⟨_, rfl, p, dx', _, rfl, r13.ha, rdr_no (.inr ⟨co', rfl⟩) (by decide +kernel), _, rfl, _, rfl, p, sg, ms, f, tg, mk, row, rfl, L13.rdr, hgd, hmk, ho, by omega, fun H14 s14' => ?_⟩
        have L14 := L13.same s14'
        refine ⟨_, rfl, _, rfl, _, rfl, ta, sg, ms, f, tg, pm, pl, ad, mk, row, rfl, L14.told, hgd.htg, hmk, ho, rfl, _, rfl, iteN (by simp) ?_⟩
        exact ⟨⟨_, _, _, _, _, _, _, rfl⟩, ((hB11.trans (bk_same s12' hB11.2)).trans hB13).trans (bk_same s14' hB13.2)⟩
      · clear s1 s2 s3 s4 s5 s6 s8 s9 s10 s11 s12
        rintro σ H11 ⟨⟨s6, s7, s8, s9, s10, s11, s12, rfl⟩, hB11⟩
        have L11 := L10.bx hB11
        clear hB11 L10 eap hro
        refine ⟨_, rfl, p, sg, ms, f, tg, rfl, L11.rdr, hgd, L11.tabs, fun q ps H12 e12 hT12 h12 hl12 hq12 => ?_⟩
        refine ⟨q, _, 4, 200, rfl, dp_pr h12 hl12 hq12, pairs_fit hgd h4, by decide, by decide, ?_⟩
        have L12 := L11.more e12 hT12
        clear hq12 hl12 h12 hT12 e12 L11
        refine ⟨_, rfl, ta, sg, ms, f, tg, pm, pl, ad, rfl, L12.told, hgd, h4, fun q2 ps2 H13 s13 h13 hl13 hq13 => ?_⟩
        refine ⟨q2, _, 4, 200, rfl, dp_pr h13 hl13 hq13, pairs_fit hgd h4, by decide, by decide, ?_⟩
        have L13 := L12.same s13
        clear hq13 hl13 h13 s13 L12
        refine ⟨rfl, _, rfl, iteN (by simp) ?_⟩
        refine nxt ?_
        dsimp only
        refine seq_asg ?_
        refine cb1 ?_
        refine (lc_stepsT (σ := [some (.ref a), some (.int (0 + (i : Int))), some (.ref b), some (.ref ta), some (.ref p), some (.str (S sg)), s6, s7, s8, s9, s10, s11, s12]) (z := 3) (y := 5) (i := 7) (j := 11) rfl rfl (by decide) (by decide) (by decide) (by decide) (by show 7 < 13; decide) (by show 11 < 13; decide) L13.told hgd fun D2 sa H14 s14 nD2 hD2 hsa => ?_)
        refine ⟨D2, _, rfl, .inl ⟨SqL.of hD2, fun st hst => ?_⟩⟩
        have s15 : Same H14 (upd H14 st (.tup (ms.map fun x => V.ref (sa x)))) := sm_new hst
        have hst15 : (upd H14 st (.tup (ms.map fun x => V.ref (sa x)))) st = some (.tup (ms.map fun x => V.ref (sa x))) := upd_same
        have L15 := (L13.same s14).same s15
        have hsa15 : ∀ x ∈ ms, (upd H14 st (.tup (ms.map fun x => V.ref (sa x)))) (sa x) = some (.tup (txs (sg.map (tg x)))) := fun x hx => s15 _ _ (hsa x hx)
        generalize upd H14 st (.tup (ms.map fun x => V.ref (sa x))) = H15 at hst15 L15 hsa15 ⊢
        clear s15 hst hsa hD2 nD2 s14 L13
        refine ⟨_, rfl, _, rfl, _, _, rfl, L15.told.marks, pm, txs ms, rfl, .inl ⟨SqL.of L15.told.hpm, fun tm htm => ?_⟩⟩
        have s16 : Same H15 (upd H15 tm (.tup (txs ms))) := sm_new htm
        have htm16 : (upd H15 tm (.tup (txs ms))) tm = some (.tup (txs ms)) := upd_same
        have L16 := L15.same s16
        have hst16 := s16 _ _ hst15
        have hsa16 : ∀ x ∈ ms, (upd H15 tm (.tup (txs ms))) (sa x) = some (.tup (txs (sg.map (tg x)))) := fun x hx => s16 _ _ (hsa15 x hx)
        generalize upd H15 tm (.tup (txs ms)) = H16 at htm16 L16 hst16 hsa16 ⊢
        clear s16 htm hsa15 hst15 L15
        refine ⟨_, rfl, _, _, rfl, L16.told.first, _, rfl, (by show 4 ≤ sizeLine; decide), fun du hdu => ?_⟩
        have s17 : Same H16 (upd H16 du (.lst [.str (S sg), .ref tm, .str (S f), .ref st])) := sm_new hdu
        have hdu17 : (upd H16 du (.lst [.str (S sg), .ref tm, .str (S f), .ref st])) du = some (.lst [.str (S sg), .ref tm, .str (S f), .ref st]) := upd_same
        have L17 := L16.same s17
        have htm17 := s17 _ _ htm16
        have hst17 := s17 _ _ hst16
        have hsa17 : ∀ x ∈ ms, (upd H16 du (.lst [.str (S sg), .ref tm, .str (S f), .ref st])) (sa x) = some (.tup (txs (sg.map (tg x)))) := fun x hx => s17 _ _ (hsa16 x hx)
        generalize upd H16 du (.lst [.str (S sg), .ref tm, .str (S f), .ref st]) = H17 at hdu17 L17 htm17 hst17 hsa17 ⊢
        clear s17 hdu hsa16 hst16 htm16 L16
        obtain ⟨dx, m, st1, nu, le, ra, la, co, ca, r17, hcol17⟩ := id L17.rdr
        refine ⟨_, rfl, p, C, dx, _, _, rfl, r17.ha, CH.cl, CH.nS, rl_signs, _, rfl, p, C, dx, _, _, rfl, r17.ha, CH.cl, CH.nM, rl_marks, _, rfl, p, C, dx, _, _, rfl, r17.ha, CH.cl, CH.nF, rl_first, _, rfl, p, C, dx, _, _, rfl, r17.ha, CH.cl, CH.nT, rl_steps, (by show 4 ≤ sizeLine; decide), fun al hal => ?_⟩
        have s18 : Same H17 (upd H17 al (.lst [.str (S sg), .ref m, .str (S f), .ref st1])) := sm_new hal
        refine ⟨al, _, 6, 1000, rfl, dp_r upd_same (s18 _ _ r17.hm) (s18 _ _ r17.hst) (fun x hx => s18 _ _ (r17.hsa x hx)), hgd.fitR, by decide, by decide, ?_⟩
        refine ⟨_, rfl, du, _, 6, 1000, rfl, dp_r (s18 _ _ hdu17) (s18 _ _ htm17) (s18 _ _ hst17) (fun x hx => s18 _ _ (hsa17 x hx)), hgd.fitR, by decide, by decide, ?_⟩
        refine ⟨rfl, _, rfl, iteN (by simp) ?_⟩
        have L18 := L17.same s18
        have hst18 := s18 _ _ hst17
        have hsa18 : ∀ x ∈ ms, (upd H17 al (.lst [.str (S sg), .ref m, .str (S f), .ref st1])) (sa x) = some (.tup (txs (sg.map (tg x)))) := fun x hx => s18 _ _ (hsa17 x hx)
        show (fun H18 => _) (upd H17 al (.lst [.str (S sg), .ref m, .str (S f), .ref st1]))
        generalize upd H17 al (.lst [.str (S sg), .ref m, .str (S f), .ref st1]) = H18 at L18 hst18 hsa18 ⊢
        clear s18 hal r17 hcol17 hdu17 htm17 hst17 hsa17 L17
        refine ⟨_, rfl, _, rfl, _, rfl, _, _, rfl, L18.told.marks, pm, txs ms, rfl, .inl ⟨SqL.of L18.told.hpm, fun tm2 htm2 => ?_⟩⟩
        have s19 : Same H18 (upd H18 tm2 (.tup (txs ms))) := sm_new htm2
        have L19 := L18.same s19
        refine ⟨_, rfl, _, _, rfl, L19.told.first, _, rfl, ?_⟩
        refine nil1 (mk_rdr (b := false) (c := false) (d := false) (f := f) (ms := ms) (tg := tg) (pa := sa) upd_same (s19 _ _ hst18) (fun x hx => s19 _ _ (hsa18 x hx)) hgd fun p2 H20 s20 np2 hr2 => ?_)
        have L20 := L19.same s20
        have hst20 := s20 _ _ (s19 _ _ hst18)
        clear L19 L18 hst18 hsa18
        obtain ⟨dx, m, st1, nu, le, ra, la, co, ca, r20, hcol20⟩ := id L20.rdr
        obtain ⟨dx2, m2, st2, nu2, le2, ra2, la2, co2, ca2, r2, hcol2⟩ := id hr2
        refine ⟨p, p2, dx, dx2, _, _, rfl, rfl, r20.ha, r2.ha, ⟨p, sg, ms, f, tg, .ref p2, rfl, L20.rdr, hgd, .inl ⟨p2, sg, ms, f, tg, rfl, hr2, hgd, _, rfl, _, rfl, iteN (by simp [RSame]) ?_⟩⟩⟩
        refine ⟨_, rfl, _, rfl, p, dx, _, _, rfl, r20.ha, .base (.tup hst20), fT, ⟨p, sg, ms, f, tg, .ref st, rfl, L20.rdr, hgd, .inr ⟨⟨_, .base (.tup hst20), kT⟩, _, rfl, _, rfl, iteN rfl ?_⟩⟩⟩
        refine ⟨_, rfl, _, rfl, p, dx, _, rfl, r20.ha, ⟨p, sg, ms, f, tg, rfl, L20.rdr, hgd, fun H21 s21 => ⟨_, rfl, p, dx, _, _, rfl, s21 _ _ r20.ha, .base (.str _), fS, ⟨p, sg, ms, f, tg, _, rfl, L20.rdr.same s21, hgd, .inr ⟨⟨_, .base (.str _), kS⟩, _, rfl, _, rfl, iteN rfl ?_⟩⟩⟩⟩⟩
        have L21 := L20.same s21
        clear s21 r20 hcol20 r2 hcol2 hst20 L20 hr2 np2 s20 s19 htm2
        refine ⟨_, rfl, ta, sg, ms, f, tg, pm, pl, ad, rfl, L21.told, hm, fun op qs H22 s22 n22 h22 hl22 hq22 => ⟨op, rfl, ⟨_, SqL.of h22⟩, fun D3 hD3 => ?_⟩⟩
        have L22 := L21.same s22
        refine lc_keepF keep_same (walk_list (K := K) (a := op) (xs := qs.map V.ref)) hD3 (by rw [List.length_map]; exact small1000 (by omega)) (fun _ => false) (fun _ _ _ => True) (fun H r => SqL.of (r _ _ h22)) (fun _ _ _ _ _ _ _ => trivial) (fun _ _ _ _ _ _ _ _ => trivial) (fun j x H23 H24 acc N R hj r hDa hy hR hN => ?_) (fun ys H23 hly hg r hDs => ?_)
        · obtain ⟨rfl, e⟩ := hy
          rw [List.getElem?_map] at e
          cases eq' : qs[j]? with
          | none => rw [eq'] at e; cases e
          | some q' =>
            rw [eq'] at e; cases e
            obtain ⟨ms', f', tg', rq, gq, nq⟩ := hq22 q' (List.mem_of_getElem? eq')
            have L23 := L22.same r
            have rq3 := rq.same r
            obtain ⟨dx, m, st1, nu, le, ra, la, co, ca, r23, hcol23⟩ := id L23.rdr
            obtain ⟨dx2, m2, st2, nu2, le2, ra2, la2, co2, ca2, r2, hcol2⟩ := id rq3
            refine ⟨rfl, ?_⟩
            refine ⟨_, rfl, _, rfl, q', p, dx2, dx, _, _, rfl, rfl, r2.ha, r23.ha, ⟨q', sg, ms', f', tg', .ref p, rfl, rq3, gq, .inl ⟨p, sg, ms, f, tg, rfl, L23.rdr, hgd, _, rfl, _, rfl, ?_⟩⟩⟩
            rw [decide_eq_false nq]
            exact hN rfl _ (Same.refl _)
        have ely : ys = txs [] := by
          have : (takenN (fun _ => false) (qs.map V.ref).length).length = 0 := by unfold takenN; simp
          rw [this] at hly
          rw [List.length_eq_zero_iff.mp hly]; rfl
        subst ely
        have L23 := L22.same r
        refine ⟨Nat.zero_le _, fun nl hnl => ?_⟩
        have s24 : Same H23 (upd H23 nl (.lst [])) := sm_new hnl
        refine ⟨D3, nl, [], [], rfl, rfl, .inl ⟨SqL.of (s24 _ _ hDs), SqL.of (by rw [upd_same]; rfl)⟩, (fun _ h => nomatch h), (fun _ h => nomatch h), _, rfl, iteN (by simp) ?_⟩
        have L24 := L23.same s24
        refine ⟨_, rfl, ta, sg, ms, f, tg, pm, pl, ad, rfl, L24.told, hm, L24.tabs, fun H25 e25 hT25 => ?_⟩
        refine ⟨true, rfl, iteN rfl ?_⟩
        exact ⟨⟨_, _, _, _, _, _, _, _, _, _, _, _, rfl⟩, (e1.trans L24.ext).trans e25, hT25⟩
    · rintro σ H1 ⟨⟨s1, s2, s3, s4, s5, s6, s7, s8, s9, s10, s11, s12, rfl⟩, e1, hT1⟩
      exact kk _
end
end Toy
set_option maxHeartbeats 8000000
namespace Toy
open PySem L2 C8 SX LX
theorem no_names {K : PySem.W.Frag} {N : Addr} {od : Option Addr} {n : Nat} {sl : Array (Option Value)} {u0 u1 u2 u3 u4 u5 u6 u7 u8 u9 : Tok}
    (h : K.lookup N = some ⟨.type "tuple", od, .seq #[.str (Str.ofString "back") u0, .str (Str.ofString "is") u1, .str (Str.ofString "not") u2, .str (Str.ofString "and") u3, .str (Str.ofString "or") u4, .str (Str.ofString "if") u5, .str (Str.ofString "then") u6, .str (Str.ofString "for") u7, .str (Str.ofString "all") u8, .str (Str.ofString "some") u9] n, sl⟩) (H : Hp) : SqT K H N (txs no10) := by
  refine .inr ⟨_, _, _, h, rfl, rfl, (by show 10 ≤ sizeLine; decide), ?_⟩
  have e0 : (Str.ofString "back") = S [98, 97, 99, 107] := by decide +kernel
  have e1 : (Str.ofString "is") = S [105, 115] := by decide +kernel
  have e2 : (Str.ofString "not") = S [110, 111, 116] := by decide +kernel
  have e3 : (Str.ofString "and") = S [97, 110, 100] := by decide +kernel
  have e4 : (Str.ofString "or") = S [111, 114] := by decide +kernel
  have e5 : (Str.ofString "if") = S [105, 102] := by decide +kernel
  have e6 : (Str.ofString "then") = S [116, 104, 101, 110] := by decide +kernel
  have e7 : (Str.ofString "for") = S [102, 111, 114] := by decide +kernel
  have e8 : (Str.ofString "all") = S [97, 108, 108] := by decide +kernel
  have e9 : (Str.ofString "some") = S [115, 111, 109, 101] := by decide +kernel
  rw [e0, e1, e2, e3, e4, e5, e6, e7, e8, e9]
  exact .cons ⟨_, rfl⟩ (.cons ⟨_, rfl⟩ (.cons ⟨_, rfl⟩ (.cons ⟨_, rfl⟩ (.cons ⟨_, rfl⟩ (.cons ⟨_, rfl⟩ (.cons ⟨_, rfl⟩ (.cons ⟨_, rfl⟩ (.cons ⟨_, rfl⟩ (.cons ⟨_, rfl⟩ .nil)))))))))
def ttOf (tt : List (Addr × Addr)) : List NdefX.NTab := tt.map fun p => (p.2, fun _ _ => ("reached.<locals>.lead" : Str))
theorem all_mk {l : PySem.W.OpenLaw} {qp : Program} {w : World} {K : PySem.W.Frag} {h : Heap} {mg : Str → Option Value} {fa : Addr} {f_take f_pick f_mixed f_signs f_drawn f_led f_rows f_box f_isseq f_isrow f_isletters f_issigns f_isname f_ismarks f_istargets f_issteps f_m_num f_table f_cols f_init f_ismark f_m_led f_m_read f_until f_never f_walked f_rch f_made f_reached f_lines f_str f_eq f_others f_kept f_law C_Reader : Addr} (X : K.In h) (G : h.Ns mainGlobals mg) (hfa : mg "law" = some (.ref fa))
    {od_take an_take : Option Addr} {sl_take : Array (Option Value)} {oc_take kV_take dc_take pm_take cd_take ct_take : Value}
    {od_pick an_pick : Option Addr} {sl_pick : Array (Option Value)} {oc_pick kV_pick dc_pick pm_pick cd_pick ct_pick : Value}
    {od_mixed an_mixed : Option Addr} {sl_mixed : Array (Option Value)} {oc_mixed kV_mixed dc_mixed pm_mixed cd_mixed ct_mixed : Value}
    {od_signs an_signs : Option Addr} {sl_signs : Array (Option Value)} {oc_signs kV_signs dc_signs pm_signs cd_signs ct_signs : Value}
    {od_drawn an_drawn : Option Addr} {sl_drawn : Array (Option Value)} {oc_drawn kV_drawn dc_drawn pm_drawn cd_drawn ct_drawn : Value}
    {od_led an_led : Option Addr} {sl_led : Array (Option Value)} {oc_led kV_led dc_led pm_led cd_led ct_led : Value}
    {od_rows an_rows : Option Addr} {sl_rows : Array (Option Value)} {oc_rows kV_rows dc_rows pm_rows cd_rows ct_rows : Value}
    {od_box an_box : Option Addr} {sl_box : Array (Option Value)} {oc_box kV_box dc_box pm_box cd_box ct_box : Value}
    {od_isseq an_isseq : Option Addr} {sl_isseq : Array (Option Value)} {oc_isseq kV_isseq dc_isseq pm_isseq cd_isseq ct_isseq : Value}
    {od_isrow an_isrow : Option Addr} {sl_isrow : Array (Option Value)} {oc_isrow kV_isrow dc_isrow pm_isrow cd_isrow ct_isrow : Value}
    {od_isletters an_isletters : Option Addr} {sl_isletters : Array (Option Value)} {oc_isletters kV_isletters dc_isletters pm_isletters cd_isletters ct_isletters : Value}
    {od_issigns an_issigns : Option Addr} {sl_issigns : Array (Option Value)} {oc_issigns kV_issigns dc_issigns pm_issigns cd_issigns ct_issigns : Value}
    {od_isname an_isname : Option Addr} {sl_isname : Array (Option Value)} {oc_isname kV_isname dc_isname pm_isname cd_isname ct_isname : Value}
    {od_ismarks an_ismarks : Option Addr} {sl_ismarks : Array (Option Value)} {oc_ismarks kV_ismarks dc_ismarks pm_ismarks cd_ismarks ct_ismarks : Value}
    {od_istargets an_istargets : Option Addr} {sl_istargets : Array (Option Value)} {oc_istargets kV_istargets dc_istargets pm_istargets cd_istargets ct_istargets : Value}
    {od_issteps an_issteps : Option Addr} {sl_issteps : Array (Option Value)} {oc_issteps kV_issteps dc_issteps pm_issteps cd_issteps ct_issteps : Value}
    {od_m_num an_m_num : Option Addr} {sl_m_num : Array (Option Value)} {oc_m_num kV_m_num dc_m_num pm_m_num cd_m_num ct_m_num : Value}
    {od_table an_table : Option Addr} {sl_table : Array (Option Value)} {oc_table kV_table dc_table pm_table cd_table ct_table : Value}
    {od_cols an_cols : Option Addr} {sl_cols : Array (Option Value)} {oc_cols kV_cols dc_cols pm_cols cd_cols ct_cols : Value}
    {od_init an_init : Option Addr} {sl_init : Array (Option Value)} {oc_init kV_init dc_init pm_init cd_init ct_init : Value}
    {od_ismark an_ismark : Option Addr} {sl_ismark : Array (Option Value)} {oc_ismark kV_ismark dc_ismark pm_ismark cd_ismark ct_ismark : Value}
    {od_m_led an_m_led : Option Addr} {sl_m_led : Array (Option Value)} {oc_m_led kV_m_led dc_m_led pm_m_led cd_m_led ct_m_led : Value}
    {od_m_read an_m_read : Option Addr} {sl_m_read : Array (Option Value)} {oc_m_read kV_m_read dc_m_read pm_m_read cd_m_read ct_m_read : Value}
    {od_until an_until : Option Addr} {sl_until : Array (Option Value)} {oc_until kV_until dc_until pm_until cd_until ct_until : Value}
    {od_never an_never : Option Addr} {sl_never : Array (Option Value)} {oc_never kV_never dc_never pm_never cd_never ct_never : Value}
    {od_walked an_walked : Option Addr} {sl_walked : Array (Option Value)} {oc_walked kV_walked dc_walked pm_walked cd_walked ct_walked : Value}
    {od_rch an_rch : Option Addr} {sl_rch : Array (Option Value)} {oc_rch kV_rch dc_rch pm_rch ct_rch : Value}
    {od_made an_made : Option Addr} {sl_made : Array (Option Value)} {oc_made kV_made dc_made pm_made cd_made ct_made : Value}
    {od_reached an_reached : Option Addr} {sl_reached : Array (Option Value)} {oc_reached kV_reached dc_reached pm_reached cd_reached ct_reached : Value}
    {od_lines an_lines : Option Addr} {sl_lines : Array (Option Value)} {oc_lines kV_lines dc_lines pm_lines cd_lines ct_lines : Value}
    {od_str an_str : Option Addr} {sl_str : Array (Option Value)} {oc_str kV_str dc_str pm_str cd_str ct_str : Value}
    {od_eq an_eq : Option Addr} {sl_eq : Array (Option Value)} {oc_eq kV_eq dc_eq pm_eq cd_eq ct_eq : Value}
    {od_others an_others : Option Addr} {sl_others : Array (Option Value)} {oc_others kV_others dc_others pm_others cd_others ct_others : Value}
    {od_kept an_kept : Option Addr} {sl_kept : Array (Option Value)} {oc_kept kV_kept dc_kept pm_kept cd_kept ct_kept : Value}
    {od_law an_law : Option Addr} {sl_law : Array (Option Value)} {oc_law kV_law dc_law pm_law cd_law ct_law : Value}
    {N_nn : Addr} {od_nn : Option Addr} {n_nn : Nat} {sl_nn : Array (Option Value)} {u0_nn u1_nn u2_nn u3_nn u4_nn u5_nn u6_nn u7_nn u8_nn u9_nn : Tok}
    (tg_nn : PySem.W.nsIn K mainGlobals "_NO_NAMES" = some (some (.ref N_nn)))
    (tl_nn : K.lookup N_nn = some ⟨.type "tuple", od_nn, .seq #[.str (Str.ofString "back") u0_nn, .str (Str.ofString "is") u1_nn, .str (Str.ofString "not") u2_nn, .str (Str.ofString "and") u3_nn, .str (Str.ofString "or") u4_nn, .str (Str.ofString "if") u5_nn, .str (Str.ofString "then") u6_nn, .str (Str.ofString "for") u7_nn, .str (Str.ofString "all") u8_nn, .str (Str.ofString "some") u9_nn] n_nn, sl_nn⟩)
    {cc_rch PP_rch : Addr} {oe_rch : Option Addr} {oc2_rch : Value} {vs_rch : Array Value} {sl2_rch : Array (Option Value)}
    (tr_rch : ∃ e, (PyProof.Rows.recsOf qp).find? (fun e => e.name == ("reached" : Str)) = some e)
    {tk_az : Tok}
    (q_az : PySem.W.nsIn K mainGlobals "_LETTERS" = some (some (.str (S az) tk_az)))
    (g_Reader : PySem.W.nsIn K mainGlobals "Reader" = some (some (.ref C_Reader)))
    (pg_Reader : PySem.W.plainGet K C_Reader Str.empty = true)
    (hd_Reader : PySem.W.hasDictIn K C_Reader = true)
    (po_Reader : PySem.W.plainOver K C_Reader = true)
    (sa_Reader : PySem.W.findIn K (.ref C_Reader) "__setattr__" = some (some (.builtin "object.__setattr__")))
    (kc_Reader : PySem.W.keepIn K (.ref C_Reader) = true)
    (n_Reader_signs : PySem.W.findIn K (.ref C_Reader) "signs" = some none)
    (n_Reader_marks : PySem.W.findIn K (.ref C_Reader) "marks" = some none)
    (n_Reader_first : PySem.W.findIn K (.ref C_Reader) "first" = some none)
    (n_Reader_steps : PySem.W.findIn K (.ref C_Reader) "steps" = some none)
    (n_Reader__numbers : PySem.W.findIn K (.ref C_Reader) "_numbers" = some none)
    (n_Reader__leads : PySem.W.findIn K (.ref C_Reader) "_leads" = some none)
    (n_Reader__columns : PySem.W.findIn K (.ref C_Reader) "_columns" = some none)
    (kt_Reader_tuple : PySem.W.kitOne K (.type "tuple") (.ref C_Reader) = some false)
    (kf_Reader_tuple : PySem.W.notFirst K C_Reader (.type "tuple") = true)
    (kt_Reader_str : PySem.W.kitOne K (.type "str") (.ref C_Reader) = some false)
    (kf_Reader_str : PySem.W.notFirst K C_Reader (.type "str") = true)
    (mk_Reader : PySem.W.makesIn K C_Reader = true)
    (ha_Reader : PySem.W.findIn K (.ref C_Reader) "__class__" = some (some (.builtin "object.__class__")))
    (hn_Reader : PySem.W.specialIn K (.builtin "object.__class__") "__get__" = some (some (.builtin "getset_descriptor.__get__")))
    (tk_Reader : PySem.W.takesIn K (.builtin "object.__class__") = some true)
    (hm_Reader : PySem.W.mroIn K C_Reader (.type "object") = some true)
    (ne_Reader : PySem.W.findIn K (.ref C_Reader) "__ne__" = some (some (.builtin "object.__ne__")))
    (sf_Reader : PySem.W.selfFirst K C_Reader = true)
    (a_take : PySem.W.nsIn K mainGlobals "_law_take" = some (some (.ref f_take)))
    (l_take : K.lookup f_take = some ⟨oc_take, od_take, .func (PySem.W.fnOf "_law_take" "_law_take" (C8.fnArgs s_take) (C8.fnBody s_take) (C8.fnScope s_take) .none kV_take dc_take pm_take an_take cd_take ct_take), sl_take⟩)
    (c_take : PySem.W.codeIn K cd_take "_law_take" = true)
    (k_take : PySem.W.keepIn K (.ref f_take) = true)
    (a_pick : PySem.W.nsIn K mainGlobals "_law_pick" = some (some (.ref f_pick)))
    (l_pick : K.lookup f_pick = some ⟨oc_pick, od_pick, .func (PySem.W.fnOf "_law_pick" "_law_pick" (C8.fnArgs s_pick) (C8.fnBody s_pick) (C8.fnScope s_pick) .none kV_pick dc_pick pm_pick an_pick cd_pick ct_pick), sl_pick⟩)
    (c_pick : PySem.W.codeIn K cd_pick "_law_pick" = true)
    (k_pick : PySem.W.keepIn K (.ref f_pick) = true)
    (a_mixed : PySem.W.nsIn K mainGlobals "_law_mixed" = some (some (.ref f_mixed)))
    (l_mixed : K.lookup f_mixed = some ⟨oc_mixed, od_mixed, .func (PySem.W.fnOf "_law_mixed" "_law_mixed" (C8.fnArgs s_mixed) (C8.fnBody s_mixed) (C8.fnScope s_mixed) .none kV_mixed dc_mixed pm_mixed an_mixed cd_mixed ct_mixed), sl_mixed⟩)
    (c_mixed : PySem.W.codeIn K cd_mixed "_law_mixed" = true)
    (k_mixed : PySem.W.keepIn K (.ref f_mixed) = true)
    (a_signs : PySem.W.nsIn K mainGlobals "_law_signs" = some (some (.ref f_signs)))
    (l_signs : K.lookup f_signs = some ⟨oc_signs, od_signs, .func (PySem.W.fnOf "_law_signs" "_law_signs" (C8.fnArgs s_signs) (C8.fnBody s_signs) (C8.fnScope s_signs) .none kV_signs dc_signs pm_signs an_signs cd_signs ct_signs), sl_signs⟩)
    (c_signs : PySem.W.codeIn K cd_signs "_law_signs" = true)
    (k_signs : PySem.W.keepIn K (.ref f_signs) = true)
    (a_drawn : PySem.W.nsIn K mainGlobals "_law_drawn" = some (some (.ref f_drawn)))
    (l_drawn : K.lookup f_drawn = some ⟨oc_drawn, od_drawn, .func (PySem.W.fnOf "_law_drawn" "_law_drawn" (C8.fnArgs s_drawn) (C8.fnBody s_drawn) (C8.fnScope s_drawn) .none kV_drawn dc_drawn pm_drawn an_drawn cd_drawn ct_drawn), sl_drawn⟩)
    (c_drawn : PySem.W.codeIn K cd_drawn "_law_drawn" = true)
    (k_drawn : PySem.W.keepIn K (.ref f_drawn) = true)
    (a_led : PySem.W.nsIn K mainGlobals "_law_led" = some (some (.ref f_led)))
    (l_led : K.lookup f_led = some ⟨oc_led, od_led, .func (PySem.W.fnOf "_law_led" "_law_led" (C8.fnArgs s_led) (C8.fnBody s_led) (C8.fnScope s_led) .none kV_led dc_led pm_led an_led cd_led ct_led), sl_led⟩)
    (c_led : PySem.W.codeIn K cd_led "_law_led" = true)
    (k_led : PySem.W.keepIn K (.ref f_led) = true)
    (a_rows : PySem.W.nsIn K mainGlobals "_law_rows" = some (some (.ref f_rows)))
    (l_rows : K.lookup f_rows = some ⟨oc_rows, od_rows, .func (PySem.W.fnOf "_law_rows" "_law_rows" (C8.fnArgs s_rows) (C8.fnBody s_rows) (C8.fnScope s_rows) .none kV_rows dc_rows pm_rows an_rows cd_rows ct_rows), sl_rows⟩)
    (c_rows : PySem.W.codeIn K cd_rows "_law_rows" = true)
    (k_rows : PySem.W.keepIn K (.ref f_rows) = true)
    (a_box : PySem.W.nsIn K mainGlobals "_law_box" = some (some (.ref f_box)))
    (l_box : K.lookup f_box = some ⟨oc_box, od_box, .func (PySem.W.fnOf "_law_box" "_law_box" (C8.fnArgs s_box) (C8.fnBody s_box) (C8.fnScope s_box) .none kV_box dc_box pm_box an_box cd_box ct_box), sl_box⟩)
    (c_box : PySem.W.codeIn K cd_box "_law_box" = true)
    (k_box : PySem.W.keepIn K (.ref f_box) = true)
    (a_isseq : PySem.W.nsIn K mainGlobals "is_sequence" = some (some (.ref f_isseq)))
    (l_isseq : K.lookup f_isseq = some ⟨oc_isseq, od_isseq, .func (PySem.W.fnOf "is_sequence" "is_sequence" (C8.fnArgs s_isseq) (C8.fnBody s_isseq) (C8.fnScope s_isseq) .none kV_isseq dc_isseq pm_isseq an_isseq cd_isseq ct_isseq), sl_isseq⟩)
    (c_isseq : PySem.W.codeIn K cd_isseq "is_sequence" = true)
    (k_isseq : PySem.W.keepIn K (.ref f_isseq) = true)
    (a_isrow : PySem.W.nsIn K mainGlobals "is_row" = some (some (.ref f_isrow)))
    (l_isrow : K.lookup f_isrow = some ⟨oc_isrow, od_isrow, .func (PySem.W.fnOf "is_row" "is_row" (C8.fnArgs s_isrow) (C8.fnBody s_isrow) (C8.fnScope s_isrow) .none kV_isrow dc_isrow pm_isrow an_isrow cd_isrow ct_isrow), sl_isrow⟩)
    (c_isrow : PySem.W.codeIn K cd_isrow "is_row" = true)
    (k_isrow : PySem.W.keepIn K (.ref f_isrow) = true)
    (a_isletters : PySem.W.nsIn K mainGlobals "is_letters" = some (some (.ref f_isletters)))
    (l_isletters : K.lookup f_isletters = some ⟨oc_isletters, od_isletters, .func (PySem.W.fnOf "is_letters" "is_letters" (C8.fnArgs s_isletters) (C8.fnBody s_isletters) (C8.fnScope s_isletters) .none kV_isletters dc_isletters pm_isletters an_isletters cd_isletters ct_isletters), sl_isletters⟩)
    (c_isletters : PySem.W.codeIn K cd_isletters "is_letters" = true)
    (k_isletters : PySem.W.keepIn K (.ref f_isletters) = true)
    (a_issigns : PySem.W.nsIn K mainGlobals "is_signs" = some (some (.ref f_issigns)))
    (l_issigns : K.lookup f_issigns = some ⟨oc_issigns, od_issigns, .func (PySem.W.fnOf "is_signs" "is_signs" (C8.fnArgs s_issigns) (C8.fnBody s_issigns) (C8.fnScope s_issigns) .none kV_issigns dc_issigns pm_issigns an_issigns cd_issigns ct_issigns), sl_issigns⟩)
    (c_issigns : PySem.W.codeIn K cd_issigns "is_signs" = true)
    (k_issigns : PySem.W.keepIn K (.ref f_issigns) = true)
    (a_isname : PySem.W.nsIn K mainGlobals "is_name" = some (some (.ref f_isname)))
    (l_isname : K.lookup f_isname = some ⟨oc_isname, od_isname, .func (PySem.W.fnOf "is_name" "is_name" (C8.fnArgs s_isname) (C8.fnBody s_isname) (C8.fnScope s_isname) .none kV_isname dc_isname pm_isname an_isname cd_isname ct_isname), sl_isname⟩)
    (c_isname : PySem.W.codeIn K cd_isname "is_name" = true)
    (k_isname : PySem.W.keepIn K (.ref f_isname) = true)
    (a_ismarks : PySem.W.nsIn K mainGlobals "_is_marks" = some (some (.ref f_ismarks)))
    (l_ismarks : K.lookup f_ismarks = some ⟨oc_ismarks, od_ismarks, .func (PySem.W.fnOf "_is_marks" "_is_marks" (C8.fnArgs s_ismarks) (C8.fnBody s_ismarks) (C8.fnScope s_ismarks) .none kV_ismarks dc_ismarks pm_ismarks an_ismarks cd_ismarks ct_ismarks), sl_ismarks⟩)
    (c_ismarks : PySem.W.codeIn K cd_ismarks "_is_marks" = true)
    (k_ismarks : PySem.W.keepIn K (.ref f_ismarks) = true)
    (a_istargets : PySem.W.nsIn K mainGlobals "_is_targets" = some (some (.ref f_istargets)))
    (l_istargets : K.lookup f_istargets = some ⟨oc_istargets, od_istargets, .func (PySem.W.fnOf "_is_targets" "_is_targets" (C8.fnArgs s_istargets) (C8.fnBody s_istargets) (C8.fnScope s_istargets) .none kV_istargets dc_istargets pm_istargets an_istargets cd_istargets ct_istargets), sl_istargets⟩)
    (c_istargets : PySem.W.codeIn K cd_istargets "_is_targets" = true)
    (k_istargets : PySem.W.keepIn K (.ref f_istargets) = true)
    (a_issteps : PySem.W.nsIn K mainGlobals "_is_steps" = some (some (.ref f_issteps)))
    (l_issteps : K.lookup f_issteps = some ⟨oc_issteps, od_issteps, .func (PySem.W.fnOf "_is_steps" "_is_steps" (C8.fnArgs s_issteps) (C8.fnBody s_issteps) (C8.fnScope s_issteps) .none kV_issteps dc_issteps pm_issteps an_issteps cd_issteps ct_issteps), sl_issteps⟩)
    (c_issteps : PySem.W.codeIn K cd_issteps "_is_steps" = true)
    (k_issteps : PySem.W.keepIn K (.ref f_issteps) = true)
    (a_m_num : PySem.W.findIn K (.ref C_Reader) "number_of" = some (some (.ref f_m_num)))
    (i_m_num : PySem.W.isFn K (.ref f_m_num) = true)
    (l_m_num : K.lookup f_m_num = some ⟨oc_m_num, od_m_num, .func (PySem.W.fnOf "number_of" "Reader.number_of" (C8.fnArgs s_m_num) (C8.fnBody s_m_num) (C8.fnScope s_m_num) .none kV_m_num dc_m_num pm_m_num an_m_num cd_m_num ct_m_num), sl_m_num⟩)
    (c_m_num : PySem.W.codeIn K cd_m_num "Reader.number_of" = true)
    (k_m_num : PySem.W.keepIn K (.ref f_m_num) = true)
    (a_table : PySem.W.nsIn K mainGlobals "table_of" = some (some (.ref f_table)))
    (l_table : K.lookup f_table = some ⟨oc_table, od_table, .func (PySem.W.fnOf "table_of" "table_of" (C8.fnArgs s_table) (C8.fnBody s_table) (C8.fnScope s_table) .none kV_table dc_table pm_table an_table cd_table ct_table), sl_table⟩)
    (c_table : PySem.W.codeIn K cd_table "table_of" = true)
    (k_table : PySem.W.keepIn K (.ref f_table) = true)
    (a_cols : PySem.W.nsIn K mainGlobals "columns_of" = some (some (.ref f_cols)))
    (l_cols : K.lookup f_cols = some ⟨oc_cols, od_cols, .func (PySem.W.fnOf "columns_of" "columns_of" (C8.fnArgs s_cols) (C8.fnBody s_cols) (C8.fnScope s_cols) .none kV_cols dc_cols pm_cols an_cols cd_cols ct_cols), sl_cols⟩)
    (c_cols : PySem.W.codeIn K cd_cols "columns_of" = true)
    (k_cols : PySem.W.keepIn K (.ref f_cols) = true)
    (a_init : PySem.W.findIn K (.ref C_Reader) "__init__" = some (some (.ref f_init)))
    (i_init : PySem.W.isFn K (.ref f_init) = true)
    (l_init : K.lookup f_init = some ⟨oc_init, od_init, .func (PySem.W.fnOf "__init__" "Reader.__init__" (C8.fnArgs s_init) (C8.fnBody s_init) (C8.fnScope s_init) .none kV_init dc_init pm_init an_init cd_init ct_init), sl_init⟩)
    (c_init : PySem.W.codeIn K cd_init "Reader.__init__" = true)
    (k_init : PySem.W.keepIn K (.ref f_init) = true)
    (a_ismark : PySem.W.nsIn K mainGlobals "is_mark" = some (some (.ref f_ismark)))
    (l_ismark : K.lookup f_ismark = some ⟨oc_ismark, od_ismark, .func (PySem.W.fnOf "is_mark" "is_mark" (C8.fnArgs s_ismark) (C8.fnBody s_ismark) (C8.fnScope s_ismark) .none kV_ismark dc_ismark pm_ismark an_ismark cd_ismark ct_ismark), sl_ismark⟩)
    (c_ismark : PySem.W.codeIn K cd_ismark "is_mark" = true)
    (k_ismark : PySem.W.keepIn K (.ref f_ismark) = true)
    (a_m_led : PySem.W.findIn K (.ref C_Reader) "led" = some (some (.ref f_m_led)))
    (i_m_led : PySem.W.isFn K (.ref f_m_led) = true)
    (l_m_led : K.lookup f_m_led = some ⟨oc_m_led, od_m_led, .func (PySem.W.fnOf "led" "Reader.led" (C8.fnArgs s_m_led) (C8.fnBody s_m_led) (C8.fnScope s_m_led) .none kV_m_led dc_m_led pm_m_led an_m_led cd_m_led ct_m_led), sl_m_led⟩)
    (c_m_led : PySem.W.codeIn K cd_m_led "Reader.led" = true)
    (k_m_led : PySem.W.keepIn K (.ref f_m_led) = true)
    (a_m_read : PySem.W.findIn K (.ref C_Reader) "read" = some (some (.ref f_m_read)))
    (i_m_read : PySem.W.isFn K (.ref f_m_read) = true)
    (l_m_read : K.lookup f_m_read = some ⟨oc_m_read, od_m_read, .func (PySem.W.fnOf "read" "Reader.read" (C8.fnArgs s_m_read) (C8.fnBody s_m_read) (C8.fnScope s_m_read) .none kV_m_read dc_m_read pm_m_read an_m_read cd_m_read ct_m_read), sl_m_read⟩)
    (c_m_read : PySem.W.codeIn K cd_m_read "Reader.read" = true)
    (k_m_read : PySem.W.keepIn K (.ref f_m_read) = true)
    (a_until : PySem.W.nsIn K mainGlobals "_walked_until" = some (some (.ref f_until)))
    (l_until : K.lookup f_until = some ⟨oc_until, od_until, .func (PySem.W.fnOf "_walked_until" "_walked_until" (C8.fnArgs s_until) (C8.fnBody s_until) (C8.fnScope s_until) .none kV_until dc_until pm_until an_until cd_until ct_until), sl_until⟩)
    (c_until : PySem.W.codeIn K cd_until "_walked_until" = true)
    (k_until : PySem.W.keepIn K (.ref f_until) = true)
    (a_never : PySem.W.nsIn K mainGlobals "_never" = some (some (.ref f_never)))
    (l_never : K.lookup f_never = some ⟨oc_never, od_never, .func (PySem.W.fnOf "_never" "_never" (C8.fnArgs s_never) (C8.fnBody s_never) (C8.fnScope s_never) .none kV_never dc_never pm_never an_never cd_never ct_never), sl_never⟩)
    (c_never : PySem.W.codeIn K cd_never "_never" = true)
    (k_never : PySem.W.keepIn K (.ref f_never) = true)
    (a_walked : PySem.W.nsIn K mainGlobals "walked" = some (some (.ref f_walked)))
    (l_walked : K.lookup f_walked = some ⟨oc_walked, od_walked, .func (PySem.W.fnOf "walked" "walked" (C8.fnArgs s_walked) (C8.fnBody s_walked) (C8.fnScope s_walked) .none kV_walked dc_walked pm_walked an_walked cd_walked ct_walked), sl_walked⟩)
    (c_walked : PySem.W.codeIn K cd_walked "walked" = true)
    (k_walked : PySem.W.keepIn K (.ref f_walked) = true)
    (a_rch : PySem.W.nsIn K mainGlobals "reached" = some (some (.ref f_rch)))
    (l_rch : K.lookup f_rch = some ⟨oc_rch, od_rch, .func (PySem.W.fnOf "reached" "reached" (C8.fnArgs s_rch) (C8.fnBody s_rch) (C8.fnScope s_rch) .none kV_rch dc_rch pm_rch an_rch (.ref cc_rch) ct_rch), sl_rch⟩)
    (lc_rch : K.lookup cc_rch = some ⟨oc2_rch, oe_rch, .fields vs_rch, sl2_rch⟩)
    (pv_rch : (vs_rch[11]? : Option Value) = some (.ref PP_rch))
    (tn_rch : K.lookup PP_rch = none)
    (c_rch : PySem.W.codeIn K (.ref cc_rch) "reached" = true)
    (k_rch : PySem.W.keepIn K (.ref f_rch) = true)
    (a_made : PySem.W.nsIn K mainGlobals "_law_made" = some (some (.ref f_made)))
    (l_made : K.lookup f_made = some ⟨oc_made, od_made, .func (PySem.W.fnOf "_law_made" "_law_made" (C8.fnArgs s_made) (C8.fnBody s_made) (C8.fnScope s_made) .none kV_made dc_made pm_made an_made cd_made ct_made), sl_made⟩)
    (c_made : PySem.W.codeIn K cd_made "_law_made" = true)
    (k_made : PySem.W.keepIn K (.ref f_made) = true)
    (a_reached : PySem.W.nsIn K mainGlobals "_law_reached" = some (some (.ref f_reached)))
    (l_reached : K.lookup f_reached = some ⟨oc_reached, od_reached, .func (PySem.W.fnOf "_law_reached" "_law_reached" (C8.fnArgs s_reached) (C8.fnBody s_reached) (C8.fnScope s_reached) .none kV_reached dc_reached pm_reached an_reached cd_reached ct_reached), sl_reached⟩)
    (c_reached : PySem.W.codeIn K cd_reached "_law_reached" = true)
    (k_reached : PySem.W.keepIn K (.ref f_reached) = true)
    (a_lines : PySem.W.nsIn K mainGlobals "_lines_of_marks" = some (some (.ref f_lines)))
    (l_lines : K.lookup f_lines = some ⟨oc_lines, od_lines, .func (PySem.W.fnOf "_lines_of_marks" "_lines_of_marks" (C8.fnArgs s_lines) (C8.fnBody s_lines) (C8.fnScope s_lines) .none kV_lines dc_lines pm_lines an_lines cd_lines ct_lines), sl_lines⟩)
    (c_lines : PySem.W.codeIn K cd_lines "_lines_of_marks" = true)
    (k_lines : PySem.W.keepIn K (.ref f_lines) = true)
    (a_str : PySem.W.findIn K (.ref C_Reader) "__str__" = some (some (.ref f_str)))
    (i_str : PySem.W.isFn K (.ref f_str) = true)
    (l_str : K.lookup f_str = some ⟨oc_str, od_str, .func (PySem.W.fnOf "__str__" "Reader.__str__" (C8.fnArgs s_str) (C8.fnBody s_str) (C8.fnScope s_str) .none kV_str dc_str pm_str an_str cd_str ct_str), sl_str⟩)
    (c_str : PySem.W.codeIn K cd_str "Reader.__str__" = true)
    (k_str : PySem.W.keepIn K (.ref f_str) = true)
    (a_eq : PySem.W.findIn K (.ref C_Reader) "__eq__" = some (some (.ref f_eq)))
    (i_eq : PySem.W.isFn K (.ref f_eq) = true)
    (l_eq : K.lookup f_eq = some ⟨oc_eq, od_eq, .func (PySem.W.fnOf "__eq__" "Reader.__eq__" (C8.fnArgs s_eq) (C8.fnBody s_eq) (C8.fnScope s_eq) .none kV_eq dc_eq pm_eq an_eq cd_eq ct_eq), sl_eq⟩)
    (c_eq : PySem.W.codeIn K cd_eq "Reader.__eq__" = true)
    (k_eq : PySem.W.keepIn K (.ref f_eq) = true)
    (a_others : PySem.W.nsIn K mainGlobals "_law_others" = some (some (.ref f_others)))
    (l_others : K.lookup f_others = some ⟨oc_others, od_others, .func (PySem.W.fnOf "_law_others" "_law_others" (C8.fnArgs s_others) (C8.fnBody s_others) (C8.fnScope s_others) .none kV_others dc_others pm_others an_others cd_others ct_others), sl_others⟩)
    (c_others : PySem.W.codeIn K cd_others "_law_others" = true)
    (k_others : PySem.W.keepIn K (.ref f_others) = true)
    (a_kept : PySem.W.nsIn K mainGlobals "_law_kept_right" = some (some (.ref f_kept)))
    (l_kept : K.lookup f_kept = some ⟨oc_kept, od_kept, .func (PySem.W.fnOf "_law_kept_right" "_law_kept_right" (C8.fnArgs s_kept) (C8.fnBody s_kept) (C8.fnScope s_kept) .none kV_kept dc_kept pm_kept an_kept cd_kept ct_kept), sl_kept⟩)
    (c_kept : PySem.W.codeIn K cd_kept "_law_kept_right" = true)
    (k_kept : PySem.W.keepIn K (.ref f_kept) = true)
    (a_law : PySem.W.nsIn K mainGlobals "law" = some (some (.ref f_law)))
    (l_law : K.lookup f_law = some ⟨oc_law, od_law, .func (PySem.W.fnOf "law" "law" (C8.fnArgs s_law) (C8.fnBody s_law) (C8.fnScope s_law) .none kV_law dc_law pm_law an_law cd_law ct_law), sl_law⟩)
    (c_law : PySem.W.codeIn K cd_law "law" = true)
    (k_law : PySem.W.keepIn K (.ref f_law) = true)
    (z_int : PySem.W.nsIn K mainGlobals "int" = some none)
    (z_len : PySem.W.nsIn K mainGlobals "len" = some none)
    (z_abs : PySem.W.nsIn K mainGlobals "abs" = some none)
    (z_str : PySem.W.nsIn K mainGlobals "str" = some none)
    (z_list : PySem.W.nsIn K mainGlobals "list" = some none)
    (z_tuple : PySem.W.nsIn K mainGlobals "tuple" = some none)
    (z_dict : PySem.W.nsIn K mainGlobals "dict" = some none)
    (z_set : PySem.W.nsIn K mainGlobals "set" = some none)
    (z_isinstance : PySem.W.nsIn K mainGlobals "isinstance" = some none)
    (z_all : PySem.W.nsIn K mainGlobals "all" = some none)
    (z_zip : PySem.W.nsIn K mainGlobals "zip" = some none)
    (z_enumerate : PySem.W.nsIn K mainGlobals "enumerate" = some none)
    (z_range : PySem.W.nsIn K mainGlobals "range" = some none)
    (z_max : PySem.W.nsIn K mainGlobals "max" = some none)
    (z_min : PySem.W.nsIn K mainGlobals "min" = some none)
    (z_sorted : PySem.W.nsIn K mainGlobals "sorted" = some none)
    (z_repr : PySem.W.nsIn K mainGlobals "repr" = some none) :
    ∃ (fd : FuncData) (tt : List (Addr × Addr)), (∀ p ∈ tt, (∃ (nm : Str) (e : DefRec), PySem.W.tabIn K nm = some p ∧ (PyProof.Rows.recsOf qp).find? (fun e => e.name == nm) = some e) ∧ K.lookup p.2 = none) ∧ (∀ (s : Shared) (v : Value), BindsTo s fd ⟨[v], []⟩ [("script", v)]) ∧ ∀ base : Heap, K.In base → base.Ns mainGlobals mg → (∀ p ∈ tt, LamX.TabB base mg p.1 p.2) → FnG l.prog w K mg base 8 fa fd ["script"] (spLaw (ttOf tt) K) := by
  have e := hfa.symm.trans (PySem.W.mg_of X G a_law)
  cases e
  have T : BT mg := ⟨PySem.W.mg_none_of X G z_int, PySem.W.mg_none_of X G z_len, PySem.W.mg_none_of X G z_abs, PySem.W.mg_none_of X G z_str, PySem.W.mg_none_of X G z_list, PySem.W.mg_none_of X G z_tuple, PySem.W.mg_none_of X G z_dict, PySem.W.mg_none_of X G z_set, PySem.W.mg_none_of X G z_isinstance, PySem.W.mg_none_of X G z_all, PySem.W.mg_none_of X G z_zip, PySem.W.mg_none_of X G z_enumerate, PySem.W.mg_none_of X G z_range, PySem.W.mg_none_of X G z_max, PySem.W.mg_none_of X G z_min, PySem.W.mg_none_of X G z_sorted, PySem.W.mg_none_of X G z_repr⟩
  have mg_az := PySem.W.mg_of X G q_az
  have U_take : C8.Fun K "_law_take" "_law_take" s_take f_take (PySem.W.fnOf "_law_take" "_law_take" (C8.fnArgs s_take) (C8.fnBody s_take) (C8.fnScope s_take) .none kV_take dc_take pm_take an_take cd_take ct_take) := ⟨oc_take, od_take, .none, kV_take, dc_take, pm_take, an_take, cd_take, ct_take, sl_take, rfl, l_take, c_take⟩
  have F_take : C8.Def K mg "_law_take" s_take f_take _ := ⟨U_take, PySem.W.mg_of X G a_take, k_take⟩
  have b_take := U_take.binds rfl (ps := ["box", "many"]) fun _ _ _ _ _ _ us hl => match us, hl with | [_, _], _ => rfl
  have U_pick : C8.Fun K "_law_pick" "_law_pick" s_pick f_pick (PySem.W.fnOf "_law_pick" "_law_pick" (C8.fnArgs s_pick) (C8.fnBody s_pick) (C8.fnScope s_pick) .none kV_pick dc_pick pm_pick an_pick cd_pick ct_pick) := ⟨oc_pick, od_pick, .none, kV_pick, dc_pick, pm_pick, an_pick, cd_pick, ct_pick, sl_pick, rfl, l_pick, c_pick⟩
  have F_pick : C8.Def K mg "_law_pick" s_pick f_pick _ := ⟨U_pick, PySem.W.mg_of X G a_pick, k_pick⟩
  have b_pick := U_pick.binds rfl (ps := ["box", "some"]) fun _ _ _ _ _ _ us hl => match us, hl with | [_, _], _ => rfl
  have U_mixed : C8.Fun K "_law_mixed" "_law_mixed" s_mixed f_mixed (PySem.W.fnOf "_law_mixed" "_law_mixed" (C8.fnArgs s_mixed) (C8.fnBody s_mixed) (C8.fnScope s_mixed) .none kV_mixed dc_mixed pm_mixed an_mixed cd_mixed ct_mixed) := ⟨oc_mixed, od_mixed, .none, kV_mixed, dc_mixed, pm_mixed, an_mixed, cd_mixed, ct_mixed, sl_mixed, rfl, l_mixed, c_mixed⟩
  have F_mixed : C8.Def K mg "_law_mixed" s_mixed f_mixed _ := ⟨U_mixed, PySem.W.mg_of X G a_mixed, k_mixed⟩
  have b_mixed := U_mixed.binds rfl (ps := ["box", "some"]) fun _ _ _ _ _ _ us hl => match us, hl with | [_, _], _ => rfl
  have U_signs : C8.Fun K "_law_signs" "_law_signs" s_signs f_signs (PySem.W.fnOf "_law_signs" "_law_signs" (C8.fnArgs s_signs) (C8.fnBody s_signs) (C8.fnScope s_signs) .none kV_signs dc_signs pm_signs an_signs cd_signs ct_signs) := ⟨oc_signs, od_signs, .none, kV_signs, dc_signs, pm_signs, an_signs, cd_signs, ct_signs, sl_signs, rfl, l_signs, c_signs⟩
  have F_signs : C8.Def K mg "_law_signs" s_signs f_signs _ := ⟨U_signs, PySem.W.mg_of X G a_signs, k_signs⟩
  have b_signs := U_signs.binds rfl (ps := ["box"]) fun _ _ _ _ _ _ us hl => match us, hl with | [_], _ => rfl
  have U_drawn : C8.Fun K "_law_drawn" "_law_drawn" s_drawn f_drawn (PySem.W.fnOf "_law_drawn" "_law_drawn" (C8.fnArgs s_drawn) (C8.fnBody s_drawn) (C8.fnScope s_drawn) .none kV_drawn dc_drawn pm_drawn an_drawn cd_drawn ct_drawn) := ⟨oc_drawn, od_drawn, .none, kV_drawn, dc_drawn, pm_drawn, an_drawn, cd_drawn, ct_drawn, sl_drawn, rfl, l_drawn, c_drawn⟩
  have F_drawn : C8.Def K mg "_law_drawn" s_drawn f_drawn _ := ⟨U_drawn, PySem.W.mg_of X G a_drawn, k_drawn⟩
  have b_drawn := U_drawn.binds rfl (ps := ["box", "signs", "most"]) fun _ _ _ _ _ _ us hl => match us, hl with | [_, _, _], _ => rfl
  have U_led : C8.Fun K "_law_led" "_law_led" s_led f_led (PySem.W.fnOf "_law_led" "_law_led" (C8.fnArgs s_led) (C8.fnBody s_led) (C8.fnScope s_led) .none kV_led dc_led pm_led an_led cd_led ct_led) := ⟨oc_led, od_led, .none, kV_led, dc_led, pm_led, an_led, cd_led, ct_led, sl_led, rfl, l_led, c_led⟩
  have F_led : C8.Def K mg "_law_led" s_led f_led _ := ⟨U_led, PySem.W.mg_of X G a_led, k_led⟩
  have b_led := U_led.binds rfl (ps := ["told", "mark", "row"]) fun _ _ _ _ _ _ us hl => match us, hl with | [_, _, _], _ => rfl
  have U_rows : C8.Fun K "_law_rows" "_law_rows" s_rows f_rows (PySem.W.fnOf "_law_rows" "_law_rows" (C8.fnArgs s_rows) (C8.fnBody s_rows) (C8.fnScope s_rows) .none kV_rows dc_rows pm_rows an_rows cd_rows ct_rows) := ⟨oc_rows, od_rows, .none, kV_rows, dc_rows, pm_rows, an_rows, cd_rows, ct_rows, sl_rows, rfl, l_rows, c_rows⟩
  have F_rows : C8.Def K mg "_law_rows" s_rows f_rows _ := ⟨U_rows, PySem.W.mg_of X G a_rows, k_rows⟩
  have b_rows := U_rows.binds rfl (ps := ["signs", "most"]) fun _ _ _ _ _ _ us hl => match us, hl with | [_, _], _ => rfl
  have U_box : C8.Fun K "_law_box" "_law_box" s_box f_box (PySem.W.fnOf "_law_box" "_law_box" (C8.fnArgs s_box) (C8.fnBody s_box) (C8.fnScope s_box) .none kV_box dc_box pm_box an_box cd_box ct_box) := ⟨oc_box, od_box, .none, kV_box, dc_box, pm_box, an_box, cd_box, ct_box, sl_box, rfl, l_box, c_box⟩
  have F_box : C8.Def K mg "_law_box" s_box f_box _ := ⟨U_box, PySem.W.mg_of X G a_box, k_box⟩
  have b_box := U_box.binds rfl (ps := ["script", "base"]) fun _ _ _ _ _ _ us hl => match us, hl with | [_, _], _ => rfl
  have U_isseq : C8.Fun K "is_sequence" "is_sequence" s_isseq f_isseq (PySem.W.fnOf "is_sequence" "is_sequence" (C8.fnArgs s_isseq) (C8.fnBody s_isseq) (C8.fnScope s_isseq) .none kV_isseq dc_isseq pm_isseq an_isseq cd_isseq ct_isseq) := ⟨oc_isseq, od_isseq, .none, kV_isseq, dc_isseq, pm_isseq, an_isseq, cd_isseq, ct_isseq, sl_isseq, rfl, l_isseq, c_isseq⟩
  have F_isseq : C8.Def K mg "is_sequence" s_isseq f_isseq _ := ⟨U_isseq, PySem.W.mg_of X G a_isseq, k_isseq⟩
  have b_isseq := U_isseq.binds rfl (ps := ["value"]) fun _ _ _ _ _ _ us hl => match us, hl with | [_], _ => rfl
  have U_isrow : C8.Fun K "is_row" "is_row" s_isrow f_isrow (PySem.W.fnOf "is_row" "is_row" (C8.fnArgs s_isrow) (C8.fnBody s_isrow) (C8.fnScope s_isrow) .none kV_isrow dc_isrow pm_isrow an_isrow cd_isrow ct_isrow) := ⟨oc_isrow, od_isrow, .none, kV_isrow, dc_isrow, pm_isrow, an_isrow, cd_isrow, ct_isrow, sl_isrow, rfl, l_isrow, c_isrow⟩
  have F_isrow : C8.Def K mg "is_row" s_isrow f_isrow _ := ⟨U_isrow, PySem.W.mg_of X G a_isrow, k_isrow⟩
  have b_isrow := U_isrow.binds rfl (ps := ["value", "signs"]) fun _ _ _ _ _ _ us hl => match us, hl with | [_, _], _ => rfl
  have U_isletters : C8.Fun K "is_letters" "is_letters" s_isletters f_isletters (PySem.W.fnOf "is_letters" "is_letters" (C8.fnArgs s_isletters) (C8.fnBody s_isletters) (C8.fnScope s_isletters) .none kV_isletters dc_isletters pm_isletters an_isletters cd_isletters ct_isletters) := ⟨oc_isletters, od_isletters, .none, kV_isletters, dc_isletters, pm_isletters, an_isletters, cd_isletters, ct_isletters, sl_isletters, rfl, l_isletters, c_isletters⟩
  have F_isletters : C8.Def K mg "is_letters" s_isletters f_isletters _ := ⟨U_isletters, PySem.W.mg_of X G a_isletters, k_isletters⟩
  have b_isletters := U_isletters.binds rfl (ps := ["value"]) fun _ _ _ _ _ _ us hl => match us, hl with | [_], _ => rfl
  have U_issigns : C8.Fun K "is_signs" "is_signs" s_issigns f_issigns (PySem.W.fnOf "is_signs" "is_signs" (C8.fnArgs s_issigns) (C8.fnBody s_issigns) (C8.fnScope s_issigns) .none kV_issigns dc_issigns pm_issigns an_issigns cd_issigns ct_issigns) := ⟨oc_issigns, od_issigns, .none, kV_issigns, dc_issigns, pm_issigns, an_issigns, cd_issigns, ct_issigns, sl_issigns, rfl, l_issigns, c_issigns⟩
  have F_issigns : C8.Def K mg "is_signs" s_issigns f_issigns _ := ⟨U_issigns, PySem.W.mg_of X G a_issigns, k_issigns⟩
  have b_issigns := U_issigns.binds rfl (ps := ["value"]) fun _ _ _ _ _ _ us hl => match us, hl with | [_], _ => rfl
  have U_isname : C8.Fun K "is_name" "is_name" s_isname f_isname (PySem.W.fnOf "is_name" "is_name" (C8.fnArgs s_isname) (C8.fnBody s_isname) (C8.fnScope s_isname) .none kV_isname dc_isname pm_isname an_isname cd_isname ct_isname) := ⟨oc_isname, od_isname, .none, kV_isname, dc_isname, pm_isname, an_isname, cd_isname, ct_isname, sl_isname, rfl, l_isname, c_isname⟩
  have F_isname : C8.Def K mg "is_name" s_isname f_isname _ := ⟨U_isname, PySem.W.mg_of X G a_isname, k_isname⟩
  have b_isname := U_isname.binds rfl (ps := ["value"]) fun _ _ _ _ _ _ us hl => match us, hl with | [_], _ => rfl
  have U_ismarks : C8.Fun K "_is_marks" "_is_marks" s_ismarks f_ismarks (PySem.W.fnOf "_is_marks" "_is_marks" (C8.fnArgs s_ismarks) (C8.fnBody s_ismarks) (C8.fnScope s_ismarks) .none kV_ismarks dc_ismarks pm_ismarks an_ismarks cd_ismarks ct_ismarks) := ⟨oc_ismarks, od_ismarks, .none, kV_ismarks, dc_ismarks, pm_ismarks, an_ismarks, cd_ismarks, ct_ismarks, sl_ismarks, rfl, l_ismarks, c_ismarks⟩
  have F_ismarks : C8.Def K mg "_is_marks" s_ismarks f_ismarks _ := ⟨U_ismarks, PySem.W.mg_of X G a_ismarks, k_ismarks⟩
  have b_ismarks := U_ismarks.binds rfl (ps := ["value"]) fun _ _ _ _ _ _ us hl => match us, hl with | [_], _ => rfl
  have U_istargets : C8.Fun K "_is_targets" "_is_targets" s_istargets f_istargets (PySem.W.fnOf "_is_targets" "_is_targets" (C8.fnArgs s_istargets) (C8.fnBody s_istargets) (C8.fnScope s_istargets) .none kV_istargets dc_istargets pm_istargets an_istargets cd_istargets ct_istargets) := ⟨oc_istargets, od_istargets, .none, kV_istargets, dc_istargets, pm_istargets, an_istargets, cd_istargets, ct_istargets, sl_istargets, rfl, l_istargets, c_istargets⟩
  have F_istargets : C8.Def K mg "_is_targets" s_istargets f_istargets _ := ⟨U_istargets, PySem.W.mg_of X G a_istargets, k_istargets⟩
  have b_istargets := U_istargets.binds rfl (ps := ["value", "signs", "marks"]) fun _ _ _ _ _ _ us hl => match us, hl with | [_, _, _], _ => rfl
  have U_issteps : C8.Fun K "_is_steps" "_is_steps" s_issteps f_issteps (PySem.W.fnOf "_is_steps" "_is_steps" (C8.fnArgs s_issteps) (C8.fnBody s_issteps) (C8.fnScope s_issteps) .none kV_issteps dc_issteps pm_issteps an_issteps cd_issteps ct_issteps) := ⟨oc_issteps, od_issteps, .none, kV_issteps, dc_issteps, pm_issteps, an_issteps, cd_issteps, ct_issteps, sl_issteps, rfl, l_issteps, c_issteps⟩
  have F_issteps : C8.Def K mg "_is_steps" s_issteps f_issteps _ := ⟨U_issteps, PySem.W.mg_of X G a_issteps, k_issteps⟩
  have b_issteps := U_issteps.binds rfl (ps := ["value", "signs", "marks"]) fun _ _ _ _ _ _ us hl => match us, hl with | [_, _, _], _ => rfl
  have U_m_num : C8.Fun K "number_of" "Reader.number_of" s_m_num f_m_num (PySem.W.fnOf "number_of" "Reader.number_of" (C8.fnArgs s_m_num) (C8.fnBody s_m_num) (C8.fnScope s_m_num) .none kV_m_num dc_m_num pm_m_num an_m_num cd_m_num ct_m_num) := ⟨oc_m_num, od_m_num, .none, kV_m_num, dc_m_num, pm_m_num, an_m_num, cd_m_num, ct_m_num, sl_m_num, rfl, l_m_num, c_m_num⟩
  have me_m_num : Meth K C_Reader "number_of" f_m_num := ⟨a_m_num, i_m_num, k_m_num⟩
  have b_m_num := U_m_num.binds rfl (ps := ["self", "mark"]) fun _ _ _ _ _ _ us hl => match us, hl with | [_, _], _ => rfl
  have U_table : C8.Fun K "table_of" "table_of" s_table f_table (PySem.W.fnOf "table_of" "table_of" (C8.fnArgs s_table) (C8.fnBody s_table) (C8.fnScope s_table) .none kV_table dc_table pm_table an_table cd_table ct_table) := ⟨oc_table, od_table, .none, kV_table, dc_table, pm_table, an_table, cd_table, ct_table, sl_table, rfl, l_table, c_table⟩
  have F_table : C8.Def K mg "table_of" s_table f_table _ := ⟨U_table, PySem.W.mg_of X G a_table, k_table⟩
  have b_table := U_table.binds rfl (ps := ["reader"]) fun _ _ _ _ _ _ us hl => match us, hl with | [_], _ => rfl
  have U_cols : C8.Fun K "columns_of" "columns_of" s_cols f_cols (PySem.W.fnOf "columns_of" "columns_of" (C8.fnArgs s_cols) (C8.fnBody s_cols) (C8.fnScope s_cols) .none kV_cols dc_cols pm_cols an_cols cd_cols ct_cols) := ⟨oc_cols, od_cols, .none, kV_cols, dc_cols, pm_cols, an_cols, cd_cols, ct_cols, sl_cols, rfl, l_cols, c_cols⟩
  have F_cols : C8.Def K mg "columns_of" s_cols f_cols _ := ⟨U_cols, PySem.W.mg_of X G a_cols, k_cols⟩
  have b_cols := U_cols.binds rfl (ps := ["signs", "table"]) fun _ _ _ _ _ _ us hl => match us, hl with | [_, _], _ => rfl
  have U_init : C8.Fun K "__init__" "Reader.__init__" s_init f_init (PySem.W.fnOf "__init__" "Reader.__init__" (C8.fnArgs s_init) (C8.fnBody s_init) (C8.fnScope s_init) .none kV_init dc_init pm_init an_init cd_init ct_init) := ⟨oc_init, od_init, .none, kV_init, dc_init, pm_init, an_init, cd_init, ct_init, sl_init, rfl, l_init, c_init⟩
  have me_init : Meth K C_Reader "__init__" f_init := ⟨a_init, i_init, k_init⟩
  have b_init := U_init.binds rfl (ps := ["self", "signs", "marks", "first", "steps"]) fun _ _ _ _ _ _ us hl => match us, hl with | [_, _, _, _, _], _ => rfl
  have U_ismark : C8.Fun K "is_mark" "is_mark" s_ismark f_ismark (PySem.W.fnOf "is_mark" "is_mark" (C8.fnArgs s_ismark) (C8.fnBody s_ismark) (C8.fnScope s_ismark) .none kV_ismark dc_ismark pm_ismark an_ismark cd_ismark ct_ismark) := ⟨oc_ismark, od_ismark, .none, kV_ismark, dc_ismark, pm_ismark, an_ismark, cd_ismark, ct_ismark, sl_ismark, rfl, l_ismark, c_ismark⟩
  have F_ismark : C8.Def K mg "is_mark" s_ismark f_ismark _ := ⟨U_ismark, PySem.W.mg_of X G a_ismark, k_ismark⟩
  have b_ismark := U_ismark.binds rfl (ps := ["reader", "value"]) fun _ _ _ _ _ _ us hl => match us, hl with | [_, _], _ => rfl
  have U_m_led : C8.Fun K "led" "Reader.led" s_m_led f_m_led (PySem.W.fnOf "led" "Reader.led" (C8.fnArgs s_m_led) (C8.fnBody s_m_led) (C8.fnScope s_m_led) .none kV_m_led dc_m_led pm_m_led an_m_led cd_m_led ct_m_led) := ⟨oc_m_led, od_m_led, .none, kV_m_led, dc_m_led, pm_m_led, an_m_led, cd_m_led, ct_m_led, sl_m_led, rfl, l_m_led, c_m_led⟩
  have me_m_led : Meth K C_Reader "led" f_m_led := ⟨a_m_led, i_m_led, k_m_led⟩
  have b_m_led := U_m_led.binds rfl (ps := ["self", "mark", "row"]) fun _ _ _ _ _ _ us hl => match us, hl with | [_, _, _], _ => rfl
  have U_m_read : C8.Fun K "read" "Reader.read" s_m_read f_m_read (PySem.W.fnOf "read" "Reader.read" (C8.fnArgs s_m_read) (C8.fnBody s_m_read) (C8.fnScope s_m_read) .none kV_m_read dc_m_read pm_m_read an_m_read cd_m_read ct_m_read) := ⟨oc_m_read, od_m_read, .none, kV_m_read, dc_m_read, pm_m_read, an_m_read, cd_m_read, ct_m_read, sl_m_read, rfl, l_m_read, c_m_read⟩
  have me_m_read : Meth K C_Reader "read" f_m_read := ⟨a_m_read, i_m_read, k_m_read⟩
  have b_m_read := U_m_read.binds rfl (ps := ["self", "row"]) fun _ _ _ _ _ _ us hl => match us, hl with | [_, _], _ => rfl
  have U_until : C8.Fun K "_walked_until" "_walked_until" s_until f_until (PySem.W.fnOf "_walked_until" "_walked_until" (C8.fnArgs s_until) (C8.fnBody s_until) (C8.fnScope s_until) .none kV_until dc_until pm_until an_until cd_until ct_until) := ⟨oc_until, od_until, .none, kV_until, dc_until, pm_until, an_until, cd_until, ct_until, sl_until, rfl, l_until, c_until⟩
  have F_until : C8.Def K mg "_walked_until" s_until f_until _ := ⟨U_until, PySem.W.mg_of X G a_until, k_until⟩
  have b_until := U_until.binds rfl (ps := ["signs", "begin", "lead", "is_last"]) fun _ _ _ _ _ _ us hl => match us, hl with | [_, _, _, _], _ => rfl
  have U_never : C8.Fun K "_never" "_never" s_never f_never (PySem.W.fnOf "_never" "_never" (C8.fnArgs s_never) (C8.fnBody s_never) (C8.fnScope s_never) .none kV_never dc_never pm_never an_never cd_never ct_never) := ⟨oc_never, od_never, .none, kV_never, dc_never, pm_never, an_never, cd_never, ct_never, sl_never, rfl, l_never, c_never⟩
  have F_never : C8.Def K mg "_never" s_never f_never _ := ⟨U_never, PySem.W.mg_of X G a_never, k_never⟩
  have b_never := U_never.binds rfl (ps := ["thing"]) fun _ _ _ _ _ _ us hl => match us, hl with | [_], _ => rfl
  have U_walked : C8.Fun K "walked" "walked" s_walked f_walked (PySem.W.fnOf "walked" "walked" (C8.fnArgs s_walked) (C8.fnBody s_walked) (C8.fnScope s_walked) .none kV_walked dc_walked pm_walked an_walked cd_walked ct_walked) := ⟨oc_walked, od_walked, .none, kV_walked, dc_walked, pm_walked, an_walked, cd_walked, ct_walked, sl_walked, rfl, l_walked, c_walked⟩
  have F_walked : C8.Def K mg "walked" s_walked f_walked _ := ⟨U_walked, PySem.W.mg_of X G a_walked, k_walked⟩
  have b_walked := U_walked.binds rfl (ps := ["signs", "begin", "lead"]) fun _ _ _ _ _ _ us hl => match us, hl with | [_, _, _], _ => rfl
  have U_rch : C8.Fun K "reached" "reached" s_rch f_rch (PySem.W.fnOf "reached" "reached" (C8.fnArgs s_rch) (C8.fnBody s_rch) (C8.fnScope s_rch) .none kV_rch dc_rch pm_rch an_rch (.ref cc_rch) ct_rch) := ⟨oc_rch, od_rch, .none, kV_rch, dc_rch, pm_rch, an_rch, (.ref cc_rch), ct_rch, sl_rch, rfl, l_rch, c_rch⟩
  have F_rch : C8.Def K mg "reached" s_rch f_rch _ := ⟨U_rch, PySem.W.mg_of X G a_rch, k_rch⟩
  have b_rch := U_rch.binds rfl (ps := ["reader"]) fun _ _ _ _ _ _ us hl => match us, hl with | [_], _ => rfl
  have U_made : C8.Fun K "_law_made" "_law_made" s_made f_made (PySem.W.fnOf "_law_made" "_law_made" (C8.fnArgs s_made) (C8.fnBody s_made) (C8.fnScope s_made) .none kV_made dc_made pm_made an_made cd_made ct_made) := ⟨oc_made, od_made, .none, kV_made, dc_made, pm_made, an_made, cd_made, ct_made, sl_made, rfl, l_made, c_made⟩
  have F_made : C8.Def K mg "_law_made" s_made f_made _ := ⟨U_made, PySem.W.mg_of X G a_made, k_made⟩
  have b_made := U_made.binds rfl (ps := ["told"]) fun _ _ _ _ _ _ us hl => match us, hl with | [_], _ => rfl
  have U_reached : C8.Fun K "_law_reached" "_law_reached" s_reached f_reached (PySem.W.fnOf "_law_reached" "_law_reached" (C8.fnArgs s_reached) (C8.fnBody s_reached) (C8.fnScope s_reached) .none kV_reached dc_reached pm_reached an_reached cd_reached ct_reached) := ⟨oc_reached, od_reached, .none, kV_reached, dc_reached, pm_reached, an_reached, cd_reached, ct_reached, sl_reached, rfl, l_reached, c_reached⟩
  have F_reached : C8.Def K mg "_law_reached" s_reached f_reached _ := ⟨U_reached, PySem.W.mg_of X G a_reached, k_reached⟩
  have b_reached := U_reached.binds rfl (ps := ["told"]) fun _ _ _ _ _ _ us hl => match us, hl with | [_], _ => rfl
  have U_lines : C8.Fun K "_lines_of_marks" "_lines_of_marks" s_lines f_lines (PySem.W.fnOf "_lines_of_marks" "_lines_of_marks" (C8.fnArgs s_lines) (C8.fnBody s_lines) (C8.fnScope s_lines) .none kV_lines dc_lines pm_lines an_lines cd_lines ct_lines) := ⟨oc_lines, od_lines, .none, kV_lines, dc_lines, pm_lines, an_lines, cd_lines, ct_lines, sl_lines, rfl, l_lines, c_lines⟩
  have F_lines : C8.Def K mg "_lines_of_marks" s_lines f_lines _ := ⟨U_lines, PySem.W.mg_of X G a_lines, k_lines⟩
  have b_lines := U_lines.binds rfl (ps := ["reader"]) fun _ _ _ _ _ _ us hl => match us, hl with | [_], _ => rfl
  have U_str : C8.Fun K "__str__" "Reader.__str__" s_str f_str (PySem.W.fnOf "__str__" "Reader.__str__" (C8.fnArgs s_str) (C8.fnBody s_str) (C8.fnScope s_str) .none kV_str dc_str pm_str an_str cd_str ct_str) := ⟨oc_str, od_str, .none, kV_str, dc_str, pm_str, an_str, cd_str, ct_str, sl_str, rfl, l_str, c_str⟩
  have me_str : Meth K C_Reader "__str__" f_str := ⟨a_str, i_str, k_str⟩
  have b_str := U_str.binds rfl (ps := ["self"]) fun _ _ _ _ _ _ us hl => match us, hl with | [_], _ => rfl
  have U_eq : C8.Fun K "__eq__" "Reader.__eq__" s_eq f_eq (PySem.W.fnOf "__eq__" "Reader.__eq__" (C8.fnArgs s_eq) (C8.fnBody s_eq) (C8.fnScope s_eq) .none kV_eq dc_eq pm_eq an_eq cd_eq ct_eq) := ⟨oc_eq, od_eq, .none, kV_eq, dc_eq, pm_eq, an_eq, cd_eq, ct_eq, sl_eq, rfl, l_eq, c_eq⟩
  have me_eq : Meth K C_Reader "__eq__" f_eq := ⟨a_eq, i_eq, k_eq⟩
  have b_eq := U_eq.binds rfl (ps := ["self", "other"]) fun _ _ _ _ _ _ us hl => match us, hl with | [_, _], _ => rfl
  have U_others : C8.Fun K "_law_others" "_law_others" s_others f_others (PySem.W.fnOf "_law_others" "_law_others" (C8.fnArgs s_others) (C8.fnBody s_others) (C8.fnScope s_others) .none kV_others dc_others pm_others an_others cd_others ct_others) := ⟨oc_others, od_others, .none, kV_others, dc_others, pm_others, an_others, cd_others, ct_others, sl_others, rfl, l_others, c_others⟩
  have F_others : C8.Def K mg "_law_others" s_others f_others _ := ⟨U_others, PySem.W.mg_of X G a_others, k_others⟩
  have b_others := U_others.binds rfl (ps := ["told"]) fun _ _ _ _ _ _ us hl => match us, hl with | [_], _ => rfl
  have U_kept : C8.Fun K "_law_kept_right" "_law_kept_right" s_kept f_kept (PySem.W.fnOf "_law_kept_right" "_law_kept_right" (C8.fnArgs s_kept) (C8.fnBody s_kept) (C8.fnScope s_kept) .none kV_kept dc_kept pm_kept an_kept cd_kept ct_kept) := ⟨oc_kept, od_kept, .none, kV_kept, dc_kept, pm_kept, an_kept, cd_kept, ct_kept, sl_kept, rfl, l_kept, c_kept⟩
  have F_kept : C8.Def K mg "_law_kept_right" s_kept f_kept _ := ⟨U_kept, PySem.W.mg_of X G a_kept, k_kept⟩
  have b_kept := U_kept.binds rfl (ps := ["told"]) fun _ _ _ _ _ _ us hl => match us, hl with | [_], _ => rfl
  have U_law : C8.Fun K "law" "law" s_law fa (PySem.W.fnOf "law" "law" (C8.fnArgs s_law) (C8.fnBody s_law) (C8.fnScope s_law) .none kV_law dc_law pm_law an_law cd_law ct_law) := ⟨oc_law, od_law, .none, kV_law, dc_law, pm_law, an_law, cd_law, ct_law, sl_law, rfl, l_law, c_law⟩
  have F_law : C8.Def K mg "law" s_law fa _ := ⟨U_law, PySem.W.mg_of X G a_law, k_law⟩
  have b_law := U_law.binds rfl (ps := ["script"]) fun _ _ _ _ _ _ us hl => match us, hl with | [_], _ => rfl
  have Cl_Reader : Cls K C_Reader := ⟨pg_Reader, hd_Reader, po_Reader, sa_Reader⟩
  have mg_Reader := PySem.W.mg_of X G g_Reader
  have M_Reader : Mk K C_Reader f_init := ⟨mk_Reader, a_init, i_init, kc_Reader⟩
  have I_Reader : C8.InsC K C_Reader := ⟨Cl_Reader, ha_Reader, hn_Reader, tk_Reader, hm_Reader, if_pos (beq_self_eq_true _)⟩
  have N_Reader : NeC K C_Reader := ⟨ne_Reader, hm_Reader, sf_Reader⟩
  have tt_rch : PySem.W.tabIn K "reached" = some (cc_rch, PP_rch) := by simp only [PySem.W.tabIn, a_rch, l_rch, PySem.W.fnOf, lc_rch, pv_rch]
  obtain ⟨er_rch, hr_rch⟩ := tr_rch
  refine ⟨PySem.W.fnOf "law" "law" (C8.fnArgs s_law) (C8.fnBody s_law) (C8.fnScope s_law) .none kV_law dc_law pm_law an_law cd_law ct_law, [(cc_rch, PP_rch)], fun p hp => ?_, fun s v => .of_eq rfl, fun base hKb hNb hTB => ?_⟩
  · rw [List.mem_singleton.mp hp]; exact ⟨⟨_, _, tt_rch, hr_rch⟩, tn_rch⟩
  have TB_rch : LamX.TabB base mg cc_rch PP_rch := hTB (cc_rch, PP_rch) (by simp)
  have CH : CR K C_Reader := ⟨Cl_Reader, n_Reader_signs, n_Reader_marks, n_Reader_first, n_Reader_steps, n_Reader__numbers, n_Reader__leads, n_Reader__columns⟩
  have c_take := ok_take (P := l.prog) (w := w) (base := base) T F_take b_take
  have c_pick := ok_pick T c_take F_pick b_pick
  have c_mixed := ok_mixed T c_take F_mixed b_mixed
  have c_signs := ok_signs T c_pick c_mixed F_signs b_signs
  have c_drawn := ok_drawn T c_take c_pick c_mixed F_drawn b_drawn
  have c_led := ok_led (P := l.prog) (w := w) (base := base) T F_led b_led
  have c_rows := ok_rows (P := l.prog) (w := w) (base := base) T F_rows b_rows
  have c_box := ok_box (P := l.prog) (w := w) (base := base) T F_box b_box
  have c_isseq := ok_isseq (P := l.prog) (w := w) (base := base) T F_isseq b_isseq
  have c_isrow := ok_isrow (P := l.prog) (w := w) (base := base) T F_isrow b_isrow
  have c_isletters := ok_isletters T mg_az c_isrow F_isletters b_isletters
  have c_issigns := ok_issigns T c_isletters F_issigns b_issigns
  have hNN : ∀ H, SqT K H N_nn (txs no10) := no_names tl_nn
  have c_isname := ok_isname T (PySem.W.mg_of X G tg_nn) hNN c_isletters F_isname b_isname
  have c_ismarks := ok_ismarks T c_isseq c_isname F_ismarks b_ismarks
  have c_istargets := ok_istargets T c_isseq F_istargets b_istargets
  have c_issteps := ok_issteps T c_isseq c_istargets F_issteps b_issteps
  have c_m_num := ok_mnum (P := l.prog) (w := w) (base := base) T CH me_m_num U_m_num b_m_num
  have c_table := ok_table T CH c_m_num F_table b_table
  have c_cols := ok_cols (P := l.prog) (w := w) (base := base) T F_cols b_cols
  have c_Reader := ok_init T CH c_issigns c_ismarks c_issteps c_table c_cols M_Reader mg_Reader U_init b_init
  have c_ismark := ok_ismark (P := l.prog) (w := w) (base := base) T CH F_ismark b_ismark
  have c_m_led := ok_mled T CH c_ismark c_isrow me_m_led U_m_led b_m_led
  have c_m_read := ok_mread T CH c_m_led me_m_read U_m_read b_m_read
  have up := fun cl ws sp base' => up_made (P := l.prog) (w := w) T F_never b_never F_until b_until F_walked b_walked cl ws sp base'
  have c_rch := ok_reached (TT := ttOf [(cc_rch, PP_rch)]) T CH TB_rch (List.mem_singleton.mpr rfl) rfl (fun p hp _ => by rw [List.mem_singleton.mp hp]) c_m_num c_table F_walked up F_rch rfl b_rch
  have c_made := ok_made T CH mg_Reader c_Reader F_made b_made
  have c_lreached := ok_lreached T c_rows c_led F_reached b_reached
  have c_lines := ok_lines (P := l.prog) (w := w) (base := base) T CH F_lines b_lines
  have c_str := ok_str T CH c_lines me_str U_str b_str
  have c_eq := ok_eq (P := l.prog) (w := w) (base := base) T CH I_Reader mg_Reader me_eq U_eq b_eq
  have c_others := ok_others T CH mg_Reader c_Reader F_others b_others
  have c_kept := ok_kept T CH mg_Reader c_Reader c_str c_rch F_kept b_kept
  exact ok_law T CH mg_Reader N_Reader I_Reader c_box c_signs c_drawn c_made c_rows c_pick c_m_read c_led c_m_led c_rch c_lreached c_Reader c_eq c_str c_others c_kept kt_Reader_tuple kt_Reader_str kf_Reader_tuple kf_Reader_str F_law
theorem walk {l : PySem.W.OpenLaw} {q : Program} {loose : List Str} {XP : (Str → Option Value) → Heap → Prop} {YP : World → Heap → Prop} {d : DefRec} {K : Params → PySem.W.Frag} (hn : l.most = some 63) (hdf : d.params.defaults = [])
    (hY : ∀ (w : World) (h : Heap), YP w h → (K w.params).In h)
    (F : ∀ (w : World) (mg : Str → Option Value) (fa : Addr) (h : Heap), (K w.params).In h → h.Ns mainGlobals mg → mg d.name = some (.ref fa) →
      ∃ (fd : FuncData) (tt : List (Addr × Addr)), (∀ p ∈ tt, (∃ (nm : Str) (e : DefRec), PySem.W.tabIn (K w.params) nm = some p ∧ (PyProof.Rows.recsOf q).find? (fun e => e.name == nm) = some e) ∧ (K w.params).lookup p.2 = none) ∧ (∀ (s : Shared) (u : Value), BindsTo s fd ⟨[u], []⟩ [("script", u)]) ∧ ∀ base : Heap, (K w.params).In base → base.Ns mainGlobals mg → (∀ p ∈ tt, LamX.TabB base mg p.1 p.2) → FnG l.prog w (K w.params) mg base 8 fa fd ["script"] (spLaw (ttOf tt) (K w.params))) :
    PySem.W.WalkO q loose XP YP l.row.toRowW d [] (fun f vs => PySem.call f vs) :=
  walkGT (n := 63) (k := 8) (x := "script") (sp := fun K tt => spLaw (ttOf tt) K) hn (by decide) hdf ⟨rfl, by decide, by decide⟩ hY F fun K tt H a ns hl ht hS => ⟨a, ns, rfl, hS, hl, fun p hp => by
    obtain ⟨e, he, rfl⟩ := List.mem_map.mp hp
    exact NdefX.TabN.nil (ht e he), fun _ => rfl⟩
end Toy
open PySem PySem.W PyProof.Rows in
set_option maxRecDepth 100000 in
set_option maxHeartbeats 0 in
theorem PySem.Challenge.cw_allrows_k11_rows_read_holds : PySem.Challenge.rw_allrows_k11_rows_read.Holds := by
  w_on; o_law; k_head; (case hw => w_witness2)
  k_fill
  refine Toy.walk (l := PySem.Challenge.rw_allrows_k11_rows_read) rfl rfl (fun w h Y => Y.1) ?F
  case F =>
    intro w mg fa h KX G hmg
    refine' Toy.all_mk KX G hmg ?tg_nn ?tl_nn ?tr_rch ?q_az ?g_Reader ?pg_Reader ?hd_Reader ?po_Reader ?sa_Reader ?kc_Reader ?n_Reader_signs ?n_Reader_marks ?n_Reader_first ?n_Reader_steps ?n_Reader__numbers ?n_Reader__leads ?n_Reader__columns ?kt_Reader_tuple ?kf_Reader_tuple ?kt_Reader_str ?kf_Reader_str ?mk_Reader ?ha_Reader ?hn_Reader ?tk_Reader ?hm_Reader ?ne_Reader ?sf_Reader ?a_take ?l_take ?c_take ?k_take ?a_pick ?l_pick ?c_pick ?k_pick ?a_mixed ?l_mixed ?c_mixed ?k_mixed ?a_signs ?l_signs ?c_signs ?k_signs ?a_drawn ?l_drawn ?c_drawn ?k_drawn ?a_led ?l_led ?c_led ?k_led ?a_rows ?l_rows ?c_rows ?k_rows ?a_box ?l_box ?c_box ?k_box ?a_isseq ?l_isseq ?c_isseq ?k_isseq ?a_isrow ?l_isrow ?c_isrow ?k_isrow ?a_isletters ?l_isletters ?c_isletters ?k_isletters ?a_issigns ?l_issigns ?c_issigns ?k_issigns ?a_isname ?l_isname ?c_isname ?k_isname ?a_ismarks ?l_ismarks ?c_ismarks ?k_ismarks ?a_istargets ?l_istargets ?c_istargets ?k_istargets ?a_issteps ?l_issteps ?c_issteps ?k_issteps ?a_m_num ?i_m_num ?l_m_num ?c_m_num ?k_m_num ?a_table ?l_table ?c_table ?k_table ?a_cols ?l_cols ?c_cols ?k_cols ?a_init ?i_init ?l_init ?c_init ?k_init ?a_ismark ?l_ismark ?c_ismark ?k_ismark ?a_m_led ?i_m_led ?l_m_led ?c_m_led ?k_m_led ?a_m_read ?i_m_read ?l_m_read ?c_m_read ?k_m_read ?a_until ?l_until ?c_until ?k_until ?a_never ?l_never ?c_never ?k_never ?a_walked ?l_walked ?c_walked ?k_walked ?a_rch ?l_rch ?lc_rch ?pv_rch ?tn_rch ?c_rch ?k_rch ?a_made ?l_made ?c_made ?k_made ?a_reached ?l_reached ?c_reached ?k_reached ?a_lines ?l_lines ?c_lines ?k_lines ?a_str ?i_str ?l_str ?c_str ?k_str ?a_eq ?i_eq ?l_eq ?c_eq ?k_eq ?a_others ?l_others ?c_others ?k_others ?a_kept ?l_kept ?c_kept ?k_kept ?a_law ?l_law ?c_law ?k_law ?z_int ?z_len ?z_abs ?z_str ?z_list ?z_tuple ?z_dict ?z_set ?z_isinstance ?z_all ?z_zip ?z_enumerate ?z_range ?z_max ?z_min ?z_sorted ?z_repr
    (case tg_nn => k_is)
    (case tl_nn => k_is)
    (case tr_rch => exact ⟨_, rfl⟩)
    (case q_az => k_is)
    (case g_Reader => k_is)
    (case pg_Reader => k_is)
    (case hd_Reader => k_is)
    (case po_Reader => k_is)
    (case sa_Reader => k_is)
    (case kc_Reader => k_is)
    (case n_Reader_signs => k_is)
    (case n_Reader_marks => k_is)
    (case n_Reader_first => k_is)
    (case n_Reader_steps => k_is)
    (case n_Reader__numbers => k_is)
    (case n_Reader__leads => k_is)
    (case n_Reader__columns => k_is)
    (case kt_Reader_tuple => kit_is)
    (case kf_Reader_tuple => k_is)
    (case kt_Reader_str => kit_is)
    (case kf_Reader_str => k_is)
    (case mk_Reader => k_is)
    (case ha_Reader => k_is)
    (case hn_Reader => k_is)
    (case tk_Reader => k_is)
    (case hm_Reader => k_is)
    (case ne_Reader => k_is)
    (case sf_Reader => k_is)
    (case a_take => k_is)
    (case l_take => k_is)
    (case c_take => k_is)
    (case k_take => k_is)
    (case a_pick => k_is)
    (case l_pick => k_is)
    (case c_pick => k_is)
    (case k_pick => k_is)
    (case a_mixed => k_is)
    (case l_mixed => k_is)
    (case c_mixed => k_is)
    (case k_mixed => k_is)
    (case a_signs => k_is)
    (case l_signs => k_is)
    (case c_signs => k_is)
    (case k_signs => k_is)
    (case a_drawn => k_is)
    (case l_drawn => k_is)
    (case c_drawn => k_is)
    (case k_drawn => k_is)
    (case a_led => k_is)
    (case l_led => k_is)
    (case c_led => k_is)
    (case k_led => k_is)
    (case a_rows => k_is)
    (case l_rows => k_is)
    (case c_rows => k_is)
    (case k_rows => k_is)
    (case a_box => k_is)
    (case l_box => k_is)
    (case c_box => k_is)
    (case k_box => k_is)
    (case a_isseq => k_is)
    (case l_isseq => k_is)
    (case c_isseq => k_is)
    (case k_isseq => k_is)
    (case a_isrow => k_is)
    (case l_isrow => k_is)
    (case c_isrow => k_is)
    (case k_isrow => k_is)
    (case a_isletters => k_is)
    (case l_isletters => k_is)
    (case c_isletters => k_is)
    (case k_isletters => k_is)
    (case a_issigns => k_is)
    (case l_issigns => k_is)
    (case c_issigns => k_is)
    (case k_issigns => k_is)
    (case a_isname => k_is)
    (case l_isname => k_is)
    (case c_isname => k_is)
    (case k_isname => k_is)
    (case a_ismarks => k_is)
    (case l_ismarks => k_is)
    (case c_ismarks => k_is)
    (case k_ismarks => k_is)
    (case a_istargets => k_is)
    (case l_istargets => k_is)
    (case c_istargets => k_is)
    (case k_istargets => k_is)
    (case a_issteps => k_is)
    (case l_issteps => k_is)
    (case c_issteps => k_is)
    (case k_issteps => k_is)
    (case a_m_num => k_is)
    (case i_m_num => k_is)
    (case l_m_num => k_is)
    (case c_m_num => k_is)
    (case k_m_num => k_is)
    (case a_table => k_is)
    (case l_table => k_is)
    (case c_table => k_is)
    (case k_table => k_is)
    (case a_cols => k_is)
    (case l_cols => k_is)
    (case c_cols => k_is)
    (case k_cols => k_is)
    (case a_init => k_is)
    (case i_init => k_is)
    (case l_init => k_is)
    (case c_init => k_is)
    (case k_init => k_is)
    (case a_ismark => k_is)
    (case l_ismark => k_is)
    (case c_ismark => k_is)
    (case k_ismark => k_is)
    (case a_m_led => k_is)
    (case i_m_led => k_is)
    (case l_m_led => k_is)
    (case c_m_led => k_is)
    (case k_m_led => k_is)
    (case a_m_read => k_is)
    (case i_m_read => k_is)
    (case l_m_read => k_is)
    (case c_m_read => k_is)
    (case k_m_read => k_is)
    (case a_until => k_is)
    (case l_until => k_is)
    (case c_until => k_is)
    (case k_until => k_is)
    (case a_never => k_is)
    (case l_never => k_is)
    (case c_never => k_is)
    (case k_never => k_is)
    (case a_walked => k_is)
    (case l_walked => k_is)
    (case c_walked => k_is)
    (case k_walked => k_is)
    (case a_rch => k_is)
    (case l_rch => k_is)
    (case lc_rch => k_is)
    (case pv_rch => rfl)
    (case tn_rch => kernel_rfl)
    (case c_rch => k_is)
    (case k_rch => k_is)
    (case a_made => k_is)
    (case l_made => k_is)
    (case c_made => k_is)
    (case k_made => k_is)
    (case a_reached => k_is)
    (case l_reached => k_is)
    (case c_reached => k_is)
    (case k_reached => k_is)
    (case a_lines => k_is)
    (case l_lines => k_is)
    (case c_lines => k_is)
    (case k_lines => k_is)
    (case a_str => k_is)
    (case i_str => k_is)
    (case l_str => k_is)
    (case c_str => k_is)
    (case k_str => k_is)
    (case a_eq => k_is)
    (case i_eq => k_is)
    (case l_eq => k_is)
    (case c_eq => k_is)
    (case k_eq => k_is)
    (case a_others => k_is)
    (case l_others => k_is)
    (case c_others => k_is)
    (case k_others => k_is)
    (case a_kept => k_is)
    (case l_kept => k_is)
    (case c_kept => k_is)
    (case k_kept => k_is)
    (case a_law => k_is)
    (case l_law => k_is)
    (case c_law => k_is)
    (case k_law => k_is)
    (case z_int => k_is)
    (case z_len => k_is)
    (case z_abs => k_is)
    (case z_str => k_is)
    (case z_list => k_is)
    (case z_tuple => k_is)
    (case z_dict => k_is)
    (case z_set => k_is)
    (case z_isinstance => k_is)
    (case z_all => k_is)
    (case z_zip => k_is)
    (case z_enumerate => k_is)
    (case z_range => k_is)
    (case z_max => k_is)
    (case z_min => k_is)
    (case z_sorted => k_is)
    (case z_repr => k_is)
