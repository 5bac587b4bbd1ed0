import PyProof.Rows.All
import Wide.All
import OpenK.AllK
import Wide.FinOn
import Lean
import PyProof.EqAt
import PyProof.EqKinds
import PyProof.TupleCall
import PyProof.ZipIter
import PyProof.Rows.ZipGen
import PyProof.DictCompW
import KE.KRevIter
import PyProof.StrCalls2
import PyProof.StrWalks
import PyProof.Rows.StrItems
import PyProof.StrLawsTight
import PyProof.Rows.SetFrom
import PyProof.CollectIter
import PyProof.FactsAll.set
import PyProof.StationsW
import PyProof.ExcClass3
import PyProof.RulesAs
import OpenK.KRaise
import PyProof.ExcBaseAll.ValueError
import OpenK.KOwn
import PyProof.NsDelKeeps
import PyProof.ExcArgsOwn
import PyProof.ExcAttrAll.ValueError
import PyProof.IsiBase
import KE.KIsAll
import PyProof.ExcNew
import PyProof.ExcFactsAll.ValueError
import PyProof.ListRange
import PyProof.ReprRoads
import PyProof.ReprLen
import PyProof.P3In
import PyProof.NeData
import PyProof.Rows.SortWalk
import PyProof.AutoRange
import PyProof.FactsAll.range_2
import PyProof.MeetsSeq
import PyProof.FactsAll.list_3
import PyProof.Rows.Range3
import PyProof.AttrMissHeap
import PyProof.FactsAll.enumerate_0
import PyProof.FactsAll.enumerate_1
import KE.KDictOf
import PyProof.DictRoadsH
import PyProof.MeetsDict
import PyProof.DictCalls
import PyProof.Rows.SortShell
import PyProof.StrBlockI
import PyProof.StrBlock2
import PyProof.DictTruth
import KE.KUnpack
import PyProof.TupleIter
import KE.KTab
import KE.KUnpackStar
import KE.KIntText
import PySem.Challenge.RW_mirrorsums_k48_words_refused
local macro_rules | `(tactic| decide) => `(tactic| decide +kernel)
abbrev z9:=@List.length_map
abbrev zd:=@PySem.wpAny_bind
abbrev zg:=@List.getElem?_eq_getElem
abbrev zh:=@if_neg
abbrev zi:=@List.getElem?_set_ne
abbrev zj:=@List.length_append
abbrev zm:=@List.mem_cons
abbrev zn:=@List.mem_cons_of_mem
abbrev zo:=@if_pos
abbrev zp:=@List.getElem?_eq_some_iff
abbrev zr:=@List.mem_singleton
abbrev zt:=@List.mem_cons_self
abbrev zu:=@PySem.Heap.get?_push_of_some
abbrev zw:=@List.getD_eq_getElem?_getD
abbrev zx:=@Nat.le_refl
abbrev zy:=@Int.mul_le_mul_of_nonneg_right
abbrev zz:=@PySem.Heap.get?_push_size
abbrev zA:=@PySem.Heap.lt_size
abbrev zB:=@PySem.wpAny_pure
abbrev zC:=@List.size_toArray
abbrev zD:=@List.length_replicate
abbrev zE:=@Nat.lt_of_lt_of_le
abbrev zF:=@List.getElem?_set_self
abbrev zG:=@List.length_cons
abbrev zH:=@Nat.ne_of_lt
abbrev zI:=@Int.pow_succ
abbrev zJ:=@List.getElem?_append_left
abbrev zK:=@List.mem_append
abbrev zL:=@PySem.PassesOwn.never
abbrev zM:=@List.replicate_succ
abbrev zN:=@List.getElem?_map
abbrev zO:=@decide_eq_false
abbrev zP:=@List.all_eq_true
abbrev zQ:=@List.getElem?_replicate
abbrev zR:=@List.length_set
abbrev zS:=@List.getElem?_append_right
abbrev zT:=@List.lookup_cons
abbrev zU:=@PySem.wpAny_holding
abbrev zV:=@List.mem_map
abbrev zW:=@PyProof.Rows.callWith_type1
abbrev zX:=@List.append_nil
abbrev zY:=@Nat.le_trans
abbrev zZ:=@decide_eq_true
abbrev y9:=@Bool.false_ne_true
abbrev ya:=@Option.some.inj
abbrev yb:=@List.map_cons
abbrev yc:=@Int.mul_le_mul_of_nonneg_left
abbrev yd:=@congrArg
abbrev ye:=@Nat.add_sub_cancel
abbrev yf:=@List.map_append
abbrev yg:=@List.getElem_mem
abbrev yh:=@List.nodup_cons
abbrev yi:=@List.reverse_cons
abbrev yj:=@PySem.wpAny_truthy_bool
abbrev yl:=@Int.eq_ofNat_of_zero_le
abbrev ym:=@beq_eq_false_iff_ne
abbrev yn:=@List.mem_of_getElem?
abbrev yo:=@List.mem_append_right
abbrev yp:=@List.getElem?_drop
abbrev yq:=@List.length_take
abbrev yr:=@Array.getElem?_eq_some_iff
abbrev yt:=@Int.mul_comm
abbrev yu:=@Nat.zero_le
abbrev yw:=@decide_eq_true_eq
abbrev yx:=@List.length_singleton
abbrev yy:=@Bool.and_eq_true
abbrev yz:=@Int.emod_lt_of_pos
abbrev yA:=@List.length_drop
abbrev yB:=@Option.bind_some
abbrev yC:=@Int.mul_le_mul
abbrev yD:=@List.dropLast_concat_getLast
abbrev yE:=@List.mem_append_left
abbrev yF:=@List.flatten_cons
abbrev yG:=@of_decide_eq_true
abbrev yH:=@Option.isSome_iff_exists
abbrev yI:=@Array.length_toList
abbrev yJ:=@List.getElem_of_mem
abbrev yK:=@List.reverse_append
abbrev yL:=@PySem.W.hideAll_get
abbrev yM:=@PySem.mem_of_lookup
abbrev yN:=@PySem.Heap.get?_update_other
abbrev yO:=@List.length_eq_zero_iff
abbrev yP:=@PySem.W.mg_none_of
abbrev yQ:=@List.not_mem_nil
abbrev yR:=@PySem.wpAny_Call_Name_kw
abbrev yS:=@Int.le_refl
abbrev yT:=@Int.emod_nonneg
abbrev yU:=@PySem.W.hideAll_none
abbrev yV:=@PySem.wpAny_loadPart_at
abbrev yW:=@Nat.toDigits_of_lt_base
abbrev yX:=@List.length_reverse
abbrev yY:=@Array.all_toList
abbrev yZ:=@Int.ediv_le_ediv
abbrev x6:=@List.nodup_nil
abbrev x8:=@List.mem_reverse
abbrev x9:=@PySem.call_meets
abbrev xa:=@Int.lt_trans
abbrev xb:=@Nat.lt_trans
abbrev xc:=@PySem.Obj.data_mapFields
abbrev xd:=@PySem.W.callWith_K
abbrev xg:=@PySem.wpAny_passesOwn
abbrev xh:=@List.sum_cons
abbrev xi:=@Nat.lt_irrefl
abbrev xj:=@Int.toNat_natCast
abbrev xk:=@List.mem_of_mem_take
abbrev xl:=@PySem.wpAny_mono
abbrev xm:=@Int.one_mul
abbrev xn:=@PySem.sizeLine_eq
abbrev xo:=@PySem.Heap.size_push
abbrev xp:=@Nat.le_of_lt
abbrev xq:=@PySem.wpAny_standAt
abbrev xr:=@Int.lt_of_le_of_lt
abbrev xt:=@Int.pow_add
abbrev xu:=@PySem.wpAny_field
abbrev xv:=@Bool.not_eq_true'
abbrev xw:=@List.append_assoc
abbrev xx:=@Int.add_comm
abbrev xy:=@Int.pow_zero
abbrev xz:=@Nat.le_of_not_lt
abbrev xA:=@Int.mul_assoc
abbrev xB:=@List.length_nil
abbrev xC:=@List.nil_append
abbrev xD:=@PySem.wpAny_execs_nil
local macro_rules | `(tactic| omega) => `(tactic| lia)
local macro_rules | `(tactic| cases $h:ident) => `(tactic| first | (injection $h with $h; done) | subst $h | (injection $h with $h; injection $h with $h; done) | (injection $h with $h; subst $h) | (injection $h with $h; injection $h with $h; subst $h) | (injection $h with $h; injection $h with $h; injection $h with $h; subst $h) | cases ($h))
set_option Elab.async false
set_option linter.all false
set_option maxRecDepth 100000
set_option maxHeartbeats 4000000
namespace L2
open PySem PySem.Spec PyProof.Rows
abbrev Key:=Sum Int Str
def uR:Key->Value->Bool
 | .inl k,v=>Value.isInt k v
 | .inr x,v=>Value.isStrOf x v
def acA (w:World):Key->Int
 | .inl k=>hashInt k
 | .inr x=>hashStr w x
theorem cG:∀{k:Key} {v:Value},uR k v=true->(∃i t,k=Sum.inl i/\v=Value.int i t)\/(∃x t,k=Sum.inr x/\v=Value.str x t)
 | .inl i,v,h=>by
  obtain ⟨t,e⟩:=Value.isInt_shape (k:=i) (v:=v) h
  exact .inl ⟨i,t,rfl,e⟩
 | .inr x,v,h=>by
  obtain ⟨t,e⟩:=Value.isStrOf_shape (x:=x) (v:=v) h
  exact .inr ⟨x,t,rfl,e⟩
theorem HQ (i:Int) (t:Tok):uR (.inl i) (.int i t)=true:=by simp [uR,Value.isInt]
theorem HR (x:Str) (t:Tok):uR (.inr x) (.str x t)=true:=by simp [uR,Value.isStrOf]
theorem Vm (a b:Int):decide ((Sum.inl a:Key)=Sum.inl b)=(a == b):=by
 by_cases e:a=b
 ·subst e;simp
 ·have h:¬(Sum.inl a:Key)=Sum.inl b:=λq=>e (Sum.inl.inj q)
  rw [zO h]
  exact (ym.mpr e).symm
theorem Vn (a b:Str):decide ((Sum.inr a:Key)=Sum.inr b)=decide (a=b):=by
 by_cases e:a=b
 ·subst e;simp
 ·have h:¬(Sum.inr a:Key)=Sum.inr b:=λq=>e (Sum.inr.inj q)
  rw [zO h,zO e]
theorem Vo (a:Int) (b:Str):decide ((Sum.inl a:Key)=Sum.inr b)=false:=zO (λq=>nomatch q)
theorem Vp (a:Str) (b:Int):decide ((Sum.inr a:Key)=Sum.inl b)=false:=zO (λq=>nomatch q)
def fX (prog:Program) (w:World):PySem.KeyKind prog w Key where
 is:=uR
 hash:=acA w
 inj:=λv a b D z=>by
  rcases cG D with ⟨i,t,rfl,rfl⟩|⟨x,t,rfl,rfl⟩
  ·rcases cG z with ⟨j,u,rfl,e⟩|⟨y,u,rfl,e⟩
   ·injection e with e1 _;rw [e1]
   ·exact nomatch e
  ·rcases cG z with ⟨j,u,rfl,e⟩|⟨y,u,rfl,e⟩
   ·exact nomatch e
   ·injection e with e1 _;rw [e1]
 byValue:=λk v h=>by
  rcases cG h with ⟨i,t,rfl,rfl⟩|⟨x,t,rfl,rfl⟩<;>rfl
 pyHash:=λn h=>by
  rcases cG n with ⟨i,t,rfl,rfl⟩|⟨x,t,rfl,rfl⟩
  ·exact wpAny_pyHash_int h
  ·exact wpAny_pyHash_str h
 eqBool:=λB n h=>by
  rcases cG B with ⟨i,t,rfl,rfl⟩|⟨x,t,rfl,rfl⟩
  ·rcases cG n with ⟨j,u,rfl,rfl⟩|⟨y,u,rfl,rfl⟩
   ·rw [Vm] at h;exact wpAny_eqBool_int h
   ·rw [Vo] at h;exact SeqAt.EqAt.int_str i t y u _ _ _ _ h
  ·rcases cG n with ⟨j,u,rfl,rfl⟩|⟨y,u,rfl,rfl⟩
   ·rw [Vp] at h;exact SeqAt.EqAt.str_int x t j u _ _ _ _ h
   ·rw [Vn] at h;exact wpAny_eqBool_str h
 «strs»:=λk x t v h=>by
  rcases cG h with ⟨i,u,rfl,e⟩|⟨y,u,rfl,e⟩
  ·exact nomatch e
  ·injection e with e1 _
   subst e1
   cases v<;>rfl
theorem Al (prog:Program) (w:World) (i:Int) (t:Tok):(fX prog w).is (.inl i) (.int i t)=true:=HQ i t
theorem Am (prog:Program) (w:World) (x:Str) (t:Tok):(fX prog w).is (.inr x) (.str x t)=true:=HR x t
inductive V where
 | non|bl (b:Bool)|int (i:Int)|str (x:Str)|ref (a:Addr)|ty (n:String)
 deriving DecidableEq
def RelV:V->Value->Prop
 | .non,u=>u=Value.none
 | .bl b,u=>u=Value.bool b
 | .int i,u=>∃t,u=Value.int i t
 | .str x,u=>∃t,u=Value.str x t
 | .ref a,u=>u=Value.ref a
 | .ty n,u=>u=Value.type n
abbrev Vals:List V->List Value->Prop:=Paired RelV
theorem Vals.length {xs:List V} {us:List Value} (r:Vals xs us):xs.length=us.length:=Paired.length r
theorem Vals.get:∀{xs:List V} {n:List Value} {i:Nat} {x:V},Vals xs n->xs[i]? = some x->∃u,n[i]? = some u/\RelV x u
 | _,_,_,_,.nil,e=>by simp at e
 | _,_,0,_,.cons r _,e=>by simp at e;subst e;exact ⟨_,rfl,r⟩
 | _,_,i+1,x,.cons _ t,e=>by
  obtain ⟨u,h1,h2⟩:=Vals.get (i:=i) (x:=x) t (by simpa using e)
  exact ⟨u,by simpa using h1,h2⟩
theorem Vals.set (r:RelV x u):∀{xs:List V} {n:List Value} (i:Nat),Vals xs n->Vals (xs.set i x) (n.set i u)
 | _,_,_,.nil=>.nil
 | _,_,0,.cons _ t=>.cons r t
 | _,_,i+1,.cons q t=>.cons q (Vals.set r i t)
theorem Vals.append:∀{xs ys:List V} {z n:List Value},Vals xs z->Vals ys n->Vals (xs++ys) (z++n)
 | _,_,_,_,.nil,s=>s
 | _,_,_,_,.cons r t,s=>.cons r (Vals.append t s)
theorem Vals.take:∀{xs:List V} {z:List Value} (n:Nat),Vals xs z->Vals (xs.take n) (z.take n)
 | _,_,0,_=>.nil
 | _,_,_+1,.nil=>.nil
 | _,_,n+1,.cons r t=>.cons r (Vals.take n t)
theorem Vals.drop:∀{xs:List V} {z:List Value} (n:Nat),Vals xs z->Vals (xs.drop n) (z.drop n)
 | _,_,0,r=>r
 | _,_,_+1,.nil=>.nil
 | _,_,n+1,.cons _ t=>Vals.drop n t
def qJ:Option V->Option Value->Prop
 | some v,some u=>RelV v u
 | none,none=>True
 | _,_=>False
def KV {κ:Type}:List (κ × V)->List (κ × Value)->Prop:=Paired λ(p:κ × V) (q:κ × Value)=>p.1=q.1/\RelV p.2 q.2
def kV:Key->V
 | .inl i=>.int i
 | .inr x=>.str x
inductive HO where
 | lst (xs:List V)
 | tup (xs:List V)
 | dK (kvs:List (Key × V))
 | ins (C dx:Addr) (fs:List (Str × V))
 | own (x:Addr)
 | Dj (o:Obj) (u:HO)
 | ext (φ:Heap->Prop)
abbrev Hp:=Addr->Option HO
def upd (H:Hp) (a:Addr) (o:HO):Hp:=λb=>if b=a then some o else H b
theorem aL {H:Hp} {a:Addr} {o:HO}:upd H a o a=some o:=by unfold upd;rw [zo rfl]
theorem aJ {H:Hp} {a b:Addr} {o:HO} (h:b≠a):upd H a o b=H b:=by unfold upd;rw [zh h]
theorem Qo:upd (upd H a o) a u=upd H a u:=by
 funext b;unfold upd;split<;>rfl
theorem gK {H:Hp} {a b:Addr} {o:HO} (h:H a=some o) (h':H b=none):a≠b:=by
 intro e;subst e;rw [h] at h';cases h'
section
variable (P:Program) (w:World)
def bK (H:Hp) (h:Heap) (a:Addr):HO->Prop
 | .lst xs=>xs.length<=sizeLine/\∃(z:List Value) (n:Nat),Vals xs z/\h.get? a=some { cls:=.type "list",data:=.seq z.toArray n }
 | .tup xs=>xs.length<=sizeLine/\∃z:List Value,Vals xs z/\IsTup h a z.toArray
 | .dK kvs=>kvs.length<=sizeLine/\(a == sysModules)=false/\∃vs,KV kvs vs/\h.DictOf (fX P w) a vs
 | .ins C dx fs=>H dx=some (.own a)/\fs.length<=1000/\dx≠a/\h.get? a=some (PySem.W.instObj C dx) /\
   ∃mA,h.Ns1 dx mA/\(∀f,qJ (fs.lookup f) (mA f))/\PySem.Within mA (fs.map (·.1))
 | .own _=>∃o,h.get? a=some o
 | .Dj o u=>h.get? a=some o/\bK H h a u
 | .ext φ=>φ h/\(∃o,h.get? a=some o)/\∀h1 h2:Heap,φ h1->(∀o,h1.get? a=some o->h2.get? a=some o)->φ h2
def jG (H:Hp) (h:Heap):Prop:=∀a o,H a=some o->bK P w H h a o
end
section
variable {P:Program} {w:World} {H H':Hp} {h h':Heap} {a:Addr} {o:HO}
theorem bK.lt (x:bK P w H h a o):a<h.objs.size:=by
 cases o with
 | lst xs=>obtain ⟨_,_,_,_,e⟩:=x;exact zA e
 | tup xs=>obtain ⟨_,_,_,p⟩:=x;exact p.lt
 | dK kvs=>obtain ⟨_,_,_,_,o,_,_,e,_⟩:=x;exact zA e
 | ins C dx fs=>obtain ⟨_,_,_,e,_⟩:=x;exact zA e
 | own y=>obtain ⟨_,e⟩:=x;exact zA e
 | Dj ob u=>obtain ⟨e,_⟩:=x;exact zA e
 | ext φ=>obtain ⟨_,⟨_,e⟩,_⟩:=x;exact zA e
theorem bK.stay (x:bK P w H h a o) (k:∀b u,(b=a\/H b=some (.own a))->h.get? b=some u->h'.get? b=some u)
  (O:∀b,H b=some (.own a)->H' b=some (.own a)):bK P w H' h' a o:=by
 induction o with
 | lst xs=>obtain ⟨z,B,n,r,e⟩:=x;exact ⟨z,B,n,r,k _ _ (.inl rfl) e⟩
 | tup xs=>obtain ⟨z,B,r,D,e,c⟩:=x;exact ⟨z,B,r,D,k _ _ (.inl rfl) e,c⟩
 | dK kvs=>obtain ⟨z,y,vs,r,D,es,I,e,c⟩:=x;exact ⟨z,y,vs,r,D,es,I,k _ _ (.inl rfl) e,c⟩
 | ins C dx fs=>
  obtain ⟨d,z,ne,e,mA,⟨J,es,I,e2,c⟩,r⟩:=x
  exact ⟨O _ d,z,ne,k _ _ (.inl rfl) e,mA,⟨J,es,I,k _ _ (.inr d) e2,c⟩,r⟩
 | own y=>obtain ⟨D,e⟩:=x;exact ⟨D,k _ _ (.inl rfl) e⟩
 | Dj D u ih=>obtain ⟨e,q⟩:=x;exact ⟨k _ _ (.inl rfl) e,ih q⟩
 | ext φ=>obtain ⟨p,⟨o,e⟩,st⟩:=x;exact ⟨st _ _ p λo q=>k _ _ (.inl rfl) q,⟨o,k _ _ (.inl rfl) e⟩,st⟩
theorem jG.lt (x:jG P w H h) (e:H a=some o):a<h.objs.size:=(x a o e).lt
theorem jG.fresh (x:jG P w H h) (e:h.objs.size<=a):H a=none:=by
 cases q:H a with
 | none=>rfl
 | some u=>exact absurd (zE (x.lt q) e) (xi _)
theorem jG.track (x:jG P w H h) (z:H a=none) (new:bK P w (upd H a o) h a o):jG P w (upd H a o) h:=λb u e=>by
 by_cases n:b=a
 ·subst n;rw [aL] at e;cases e;exact new
 ·rw [aJ n] at e
  exact (x b u e).stay (λ_ _ _ q=>q) λc q=>by rw [aJ (gK q z)];exact q
theorem jG.moved {ch:List Addr} (x:jG P w H h) (B:∀b∈ch,H b=none) (k:∀b u,b ∉ ch->h.get? b=some u->h'.get? b=some u):jG P w H h':=λb u e=>
 (x b u e).stay (λc v n q=>k c v (λz=>by
  rcases n with rfl|n
  ·rw [B _ z] at e;cases e
  ·rw [B _ z] at n;cases n) q) λ_ q=>q
theorem jG.kept (x:jG P w H h) (k:∀b u,h.get? b=some u->h'.get? b=some u):jG P w H h':=x.moved (ch:=[]) (λ_ z=>nomatch z) λb u _ q=>k b u q
theorem jG.laid (x:jG P w H h) (k:∀b u,h.get? b=some u->h'.get? b=some u) (n:h.objs.size<=a) (new:bK P w (upd H a o) h' a o):jG P w (upd H a o) h':=(x.kept k).track (x.fresh n) new
end
def Rd (H:Hp) (a:Addr) (u:HO):Prop:=H a=some u\/∃o,H a=some (.Dj o u)
theorem Rd.ok {P:Program} {w:World} {H:Hp} {h:Heap} {a:Addr} {u:HO} (r:Rd H a u) (x:jG P w H h):bK P w H h a u:=by
 rcases r with r|⟨o,r⟩
 ·exact x a u r
 ·obtain ⟨_,q⟩:=x a _ r
  exact q
def Zn:Option HO->Prop
 | some (.lst _)=>True
 | some (.dK _)=>True
 | some (.ins _ _ _)=>True
 | some (.ext _)=>True
 | _=>False
section
variable {P:Program} {w:World} {H:Hp} {h h':Heap} {x e:Addr} {o':HO}
theorem jG.write (ok:jG P w H h) (mu:Zn (H x)) (he:e=x\/H e=some (.own x)) (k:∀b u,b≠e->h.get? b=some u->h'.get? b=some u) (J:∃u,h'.get? e=some u)
  (new:bK P w (upd H x o') h' x o'):jG P w (upd H x o') h':=λb u q=>by
 have B:∀c y,H c=some (.own y)->c≠x:=λc y r z=>by subst z;rw [r] at mu;exact mu
 by_cases I:b=x
 ·subst I;rw [aL] at q;cases q;exact new
 ·rw [aJ I] at q
  by_cases n:b=e
  ·have q':H b=some (.own x):=by
    rcases he with z|z
    ·exact absurd (n.trans z) I
    ·rw [n];exact z
   rw [q] at q';cases q'
   obtain ⟨v,O⟩:=J
   exact ⟨v,by rw [n];exact O⟩
  ·refine (ok b u q).stay (λc v D r=>k c v ?_ r) λc r=>by rw [aJ (B c b r)];exact r
   rcases D with rfl|D
   ·exact n
   ·rintro rfl
    rcases he with z|z
    ·exact B c b D z
    ·rw [D] at z;cases z;exact I rfl
end
structure Un (fs ex:List Addr) (H H':Hp) (h h':Heap):Prop where
 keep:∀b o,h.get? b=some o->H b=none->b ∉ fs->b ∉ ex->h'.get? b=some o
 slot:∀b o,h.get? b=some o->H b=none->b∈fs->b ∉ ex->∃sl,h'.get? b=some { o with slots:=sl }
 free:∀b o,h.get? b=some o->H b=none->b ∉ ex->H' b=none
 there:∀b o,h.get? b=some o->b ∉ ex->∃o',h'.get? b=some o'
 o6:∀b o u,H b=some (.Dj o u)->H' b=some (.Dj o u)
section
variable {fs fs' ex ex':List Addr} {H H1 H2:Hp} {h h1 h2 h':Heap} {a x e:Addr} {o:HO}
theorem Un.any (u:Un fs ex H H1 h h1) {b:Addr} {z:Obj} (q:h.get? b=some z) (n:H b=none) (B:b ∉ ex):∃sl,h1.get? b=some { z with slots:=sl }:=by
 by_cases D:b∈fs
 ·exact u.slot b z q n D B
 ·exact ⟨z.slots,u.keep b z q n D B⟩
theorem Un.kept (k:∀b u,h.get? b=some u->h'.get? b=some u):Un fs ex H H h h':=
 ⟨λb z q _ _ _=>k b z q,λb z q _ _ _=>⟨z.slots,k b z q⟩,λ_ _ _ n _=>n,λb z q _=>⟨z,k b z q⟩,λ_ _ _ q=>q⟩
theorem Un.refl:Un fs ex H H h h:=Un.kept λ_ _ q=>q
theorem Un.laid (k:∀b u,h.get? b=some u->h'.get? b=some u) (z:h.objs.size<=a) (B:H a=none):Un fs ex H (upd H a o) h h' where
 keep:=λb u q _ _ _=>k b u q
 slot:=λb u q _ _ _=>⟨u.slots,k b u q⟩
 free:=λb u q n _=>by rw [aJ (zH (zE (zA q) z))];exact n
 there:=λb u q _=>⟨u,k b u q⟩
 o6:=λb u xs q=>by rw [aJ (gK q B)];exact q
theorem Un.write (mu:Zn (H x)) (he:e=x\/H e=some (.own x)) (k:∀b u,b≠e->h.get? b=some u->h'.get? b=some u) (D:∃u,h'.get? e=some u):Un fs ex H (upd H x o) h h':=by
 have I:∀b,H b=none->b≠x:=λb n z=>by subst z;rw [n] at mu;exact mu
 have J:∀b,H b=none->b≠e:=λb n z=>by
  subst z
  rcases he with r|r
  ·exact I b n r
  ·rw [n] at r;cases r
 have O:∀b u,H b=some u->¬Zn (some u)->b≠x:=λb u q nm z=>by subst z;rw [q] at mu;exact nm mu
 refine ⟨λb u q n _ _=>k b u (J b n) q,λb u q n _ _=>⟨u.slots,k b u (J b n) q⟩,λb u q n _=>by rw [aJ (I b n)];exact n,λb u q _=>?_,
  λb u xs q=>by rw [aJ (O b _ q λz=>z)];exact q⟩
 by_cases B:b=e
 ·subst B;exact D
 ·exact ⟨u,k b u B q⟩
end
def trk (h:Heap) (H:Hp):List Addr:=(List.range h.objs.size).filter λa=>(H a).isSome
def vO (h:Heap) (H:Hp):Heap:=PySem.W.hideAll h (trk h H)
theorem HS (h:Heap) (H:Hp):(vO h H).objs.size=h.objs.size:=PySem.W.hideAll_size _ _
theorem JN {h:Heap} (e:h.get? b=some o) (n:H b=none):(vO h H).get? b=some o:=
 yL _ e λz=>by
  have q:(H b).isSome=true:=(List.mem_filter.mp z).2
  rw [n] at q;simp at q
theorem Qp {h:Heap} (e:(vO h H).get? b=some o):h.get? b=some o/\H b=none:=by
 have n:h.get? b=some o:=PySem.W.of_hideAll (trk h H) e
 refine ⟨n,?_⟩
 cases q:H b with
 | none=>rfl
 | some x=>
  have B:b∈trk h H:=List.mem_filter.mpr ⟨List.mem_range.mpr (zA n),by simp [q]⟩
  have z:(vO h H).get? b=none:=yU (trk h H) B
  rw [z] at e;cases e
def Qq (g h:Heap) (L:Addr):List (Addr × Obj):=(List.range h.objs.size).filterMap λa=>if a=L\/(g.get? a).isSome=true then none else (h.get? a).map λo=>(a,o)
def rest (g h:Heap) (L d:Addr):List (Addr × Obj):=(Qq g h L).filter λp=>decide (p.1≠d)
structure Mod (K:PySem.W.Frag) (mg:Str->Option Value) (base:Heap):Prop where
 Qs:K.In base
 glob:base.Ns mainGlobals mg
 blt:∃mb,base.Ns builtinsNs mb/\∀x:Str,x≠"__name__"->mb x=bootBuiltins x
 nolimit:base.NoLimit
structure Cx where
 prog:Program
 w:World
 K:PySem.W.Frag
 mg:Str->Option Value
 base:Heap
 A:Around
 N:List Str
 s₀:Shared
 H₀:Hp
 env:Env
 outer:List Env
 stack:List Env
 ex:List Addr
 fn:Str->Bool
 calm:Bool
 pn:List (Addr × Obj)
 xe:Value->Shared->Prop
def frs (l:List Env):List Addr:=l.filterMap (·.frame)
abbrev Cx.fs (X:Cx):List Addr:=frs X.outer
def Vq (n:Scope) (x:Str):Prop:=n.names.lookup x=some .local\/n.names.lookup x=some .cell\/n.names.lookup x=some .free
def Loc (n:Scope) (x:Str):Prop:=n.names.lookup x=some .local\/n.names.lookup x=some .cell
def Look (env:Env) (h:Heap) (m:Str->Option Value) (x:Str) (u:Value):Prop:=
 (env.kindOf x=some .local/\m x=some u)\/((env.kindOf x=some .cell\/env.kindOf x=some .free)/\∃c,env.cells.lookup x=some c/\h.IsCell c (some u))
structure Cx.Ok (X:Cx):Prop where
 mod:Mod X.K X.mg X.base
 kind:X.env.scope.kind=.function
 glob:X.env.globals=mainGlobals
 blt:X.env.builtins=builtinsNs
 above:X.s₀.heap.objs.size<=X.env.locals
 inj:∀x y c,X.env.cells.lookup x=some c->X.env.cells.lookup y=some c->x=y
 has:∀x,(X.env.kindOf x=some .cell\/X.env.kindOf x=some .free)->∃c,X.env.cells.lookup x=some c
 cab:∀x c,X.fn x=true->X.env.cells.lookup x=some c->X.s₀.heap.objs.size<=c
 hd:X.calm=true->X.A.handled=none
 frames:X.A.frames=some X.stack
 stk:X.stack=X.outer\/(X.stack=X.env::X.outer/\X.env.frame=some X.env.locals)
 Vr:∀b∈X.ex,b≠X.env.locals/\∀x c,X.env.cells.lookup x=some c->c≠b
 bs:∀b o,X.base.get? b=some o->X.s₀.heap.get? b=some o/\X.H₀ b=none
 HW:X.base.objs.size<=X.s₀.heap.objs.size
 uG:∀b o,X.base.get? b=some o->b ∉ X.ex
 vP:∀b∈X.ex,b ∉ X.fs
 jD:X.s₀.heap.FunFrames X.base X.outer
 JG:∀b∈X.fs,X.H₀ b=none
structure Inv (X:Cx) (pins:List (Addr × Obj)) (σ:List (Option V)) (H:Hp) (s:Shared):Prop where
 ok:X.Ok
 os:s.os=X.s₀.os
 bare:AllBare s.gens
 base:Un X.fs X.ex X.H₀ H X.s₀.heap s.heap
 loc:∃m,s.heap.Ns X.env.locals m/\∀(i:Nat) (x:Str) (v:V),X.N[i]? = some x->σ[i]? = some (some v)->Vq X.env.scope x->∃u,RelV v u/\Look X.env s.heap m x u
 cell:∀x c,X.env.cells.lookup x=some c->∃v,s.heap.IsCell c v
 free:H X.env.locals=none
 fJ:∀x c,X.env.cells.lookup x=some c->H c=none
 pin:∀p∈X.pn++pins,s.heap.get? p.1=some p.2/\H p.1=none/\p.1≠X.env.locals/\p.1 ∉ X.fs/\∀v,p.2.data≠.cell v
 hok:jG X.prog X.w H s.heap
 len:σ.length=X.N.length
structure FpX (X:Cx) (pins:List (Addr × Obj)) (b:Addr):Prop where
 l:b≠X.env.locals
 f:b ∉ X.fs
 e:b∈X.ex\/X.s₀.heap.get? b=none
 c:∀x c,X.env.cells.lookup x=some c->c≠b
 p:∀p∈X.pn++pins,p.1≠b
def lz (X:Cx) (n:List (Addr × Obj)) (H:Hp) (b:Addr):Prop:=H b=none/\FpX X n b
section
variable {X:Cx} {pins:List (Addr × Obj)} {σ:List (Option V)} {H H':Hp} {s:Shared} {h':Heap}
theorem Cx.Ok.acB (ok:X.Ok) (e:X.base.get? b=some o):b ∉ X.fs:=λn=>by
 have:=(ok.jD.mem n).1
 rw [e] at this;cases this
theorem Inv.bs (I:Inv X pins σ H s):∀b o,X.base.get? b=some o->s.heap.get? b=some o/\H b=none:=λb o e=>
 ⟨I.base.keep b o (I.ok.bs b o e).1 (I.ok.bs b o e).2 (I.ok.acB e) (I.ok.uG b o e),I.base.free b o (I.ok.bs b o e).1 (I.ok.bs b o e).2 (I.ok.uG b o e)⟩
theorem Inv.bk (I:Inv X pins σ H s):∀b o,X.base.get? b=some o->s.heap.get? b=some o:=λb o e=>(I.bs b o e).1
theorem Inv.mod (I:Inv X pins σ H s):Mod X.K X.mg X.base:=I.ok.mod
theorem Inv.rQ (I:Inv X pins σ H s):X.K.In s.heap:=I.ok.mod.Qs.keeps I.bk
theorem Inv.lt (I:Inv X pins σ H s):X.env.locals<s.heap.objs.size:=let ⟨_,hn,_⟩:=I.loc;hn.lt
theorem Inv.sz (I:Inv X pins σ H s):X.s₀.heap.objs.size<=s.heap.objs.size:=zY I.ok.above (xp I.lt)
theorem Inv.Zo (I:Inv X pins σ H s) (h:s.heap.objs.size<=a):a ∉ X.fs:=λz=>by
 obtain ⟨_,o,n,_⟩:=I.ok.jD.mem z
 exact absurd (zE (zA n) (zY I.sz h)) (xi _)
theorem Inv.Qt (I:Inv X pins σ H s):∀x c,X.env.cells.lookup x=some c->c≠X.env.locals:=λx c e z=>by
 obtain ⟨v,o,B,hd⟩:=I.cell x c e
 obtain ⟨m,⟨o',es,D,n,hd',_⟩,_⟩:=I.loc
 rw [z,n] at B;cases B;rw [hd'] at hd;cases hd
theorem Inv.jD (I:Inv X pins σ H s):s.heap.FunFrames X.base X.outer:=by
 have all:∀(l:List Env),(∀b∈frs l,b∈X.fs)->X.s₀.heap.FunFrames X.base l->s.heap.FunFrames X.base l:=by
  intro l
  induction l with
  | nil=>intro _ _;trivial
  | cons env r ih=>
   intro B U
   obtain ⟨Y,⟨L,o,hf,O,J,hd⟩,D⟩:=U
   have hL:L∈X.fs:=B L (by unfold frs;rw [List.filterMap_cons,hf];exact zt)
   obtain ⟨sl,e⟩:=I.base.slot L o J (I.ok.JG L hL) hL λz=>I.ok.vP L z hL
   exact ⟨Y,⟨L,_,hf,O,e,hd⟩,ih (λb n=>B b (by unfold frs;rw [List.filterMap_cons,hf];exact zn _ n)) D⟩
 exact all X.outer (λ_ n=>n) I.ok.jD
theorem Inv.stack (I:Inv X pins σ H s):s.heap.FunFrames X.base X.stack:=by
 rcases I.ok.stk with e|⟨e,hf⟩
 ·rw [e];exact I.jD
 ·rw [e]
  obtain ⟨m,n,_⟩:=I.loc
  refine .cons (by rw [I.ok.kind];decide) hf n ?_ I.jD
  exact Heap.get?_none_of_le (zY I.ok.HW I.ok.above)
theorem Inv.lR (I:Inv X pins σ H s):∀b∈frs X.stack,b∈X.env.locals::X.fs:=λb n=>by
 rcases I.ok.stk with e|⟨e,hf⟩
 ·rw [e] at n;exact zn _ n
 ·rw [e] at n
  unfold frs at n
  rw [List.filterMap_cons,hf] at n
  exact n
theorem Inv.qW (I:Inv X pins σ H s):∀b∈frs X.stack,H b=none:=λb n=>by
 rcases zm.mp (I.lR b n) with e|n
 ·rw [e];exact I.free
 ·obtain ⟨_,o,B,_⟩:=I.ok.jD.mem n
  exact I.base.free b o B (I.ok.JG b n) λz=>I.ok.vP b z n
theorem Inv.step {g':Array GenState} {t':Nat} {d':Drawn} {ch:List Addr} (I:Inv X pins σ H s)
  (J:∀b∈ch,FpX X pins b)
  (keep:∀b o,b≠X.env.locals->b ∉ X.fs->b ∉ ch->s.heap.get? b=some o->H b=none->h'.get? b=some o)
  (slot:∀b o,b≠X.env.locals->b∈X.fs->b ∉ ch->s.heap.get? b=some o->H b=none->∃sl,h'.get? b=some { o with slots:=sl }) (free:∀b o,b ∉ ch->s.heap.get? b=some o->H b=none->H' b=none)
  (there:∀b o,b ∉ ch->s.heap.get? b=some o->∃o',h'.get? b=some o')
  (o6:∀b o u,H b=some (.Dj o u)->H' b=some (.Dj o u))
  (ns:∀m,s.heap.Ns X.env.locals m->h'.Ns X.env.locals m) (hok:jG X.prog X.w H' h') (hg:AllBare g') :
  Inv X pins σ H' { s with heap:=h',gens:=g',drawn:=d',toks:=t' }:=by
 have neL:∀b o,X.s₀.heap.get? b=some o->b≠X.env.locals:=λb o e=>zH (zE (zA e) I.ok.above)
 have U:∀b o,X.s₀.heap.get? b=some o->b ∉ X.ex->b ∉ ch:=λb o e B Y=>by
  rcases (J b Y).e with z|z
  ·exact B z
  ·rw [z] at e;cases e
 have O:∀x c,X.env.cells.lookup x=some c->∀v,s.heap.IsCell c v->h'.IsCell c v:=λx c e v zq=>by
  obtain ⟨o,Z,hd⟩:=zq
  have D:c ∉ ch:=λz=>(J c z).c x c e rfl
  by_cases hc:c∈X.fs
  ·obtain ⟨sl,q⟩:=slot c o (I.Qt x c e) hc D Z (I.fJ x c e)
   exact ⟨_,q,hd⟩
  ·exact ⟨o,keep c o (I.Qt x c e) hc D Z (I.fJ x c e),hd⟩
 refine ⟨I.ok,I.os,hg,⟨λb o e n Y B=>?_,λb o e n Y B=>?_,λb o e n B=>?_,λb o e B=>?_,λb o xs e=>o6 b o xs (I.base.o6 b o xs e)⟩,?_,λx c e=>?_,?_,λx c e=>?_,λp hp=>?_,hok,I.len⟩
 ·exact keep b o (neL b o e) Y (U b o e B) (I.base.keep b o e n Y B) (I.base.free b o e n B)
 ·obtain ⟨sl,e1⟩:=I.base.slot b o e n Y B
  obtain ⟨sl',e2⟩:=slot b _ (neL b o e) Y (U b o e B) e1 (I.base.free b o e n B)
  exact ⟨sl',e2⟩
 ·obtain ⟨o',e1⟩:=I.base.there b o e B
  exact free b o' (U b o e B) e1 (I.base.free b o e n B)
 ·obtain ⟨o',e1⟩:=I.base.there b o e B
  exact there b o' (U b o e B) e1
 ·obtain ⟨m,hn,hl⟩:=I.loc
  refine ⟨m,ns m hn,λi x v e1 e2 e3=>?_⟩
  obtain ⟨u,r,l⟩:=hl i x v e1 e2 e3
  refine ⟨u,r,?_⟩
  rcases l with l|⟨k,c,e,z⟩
  ·exact .inl l
  ·exact .inr ⟨k,c,e,O x c e _ z⟩
 ·obtain ⟨v,z⟩:=I.cell x c e
  exact ⟨v,O x c e v z⟩
 ·obtain ⟨m,⟨o,_,_,Z,_⟩,_⟩:=I.loc
  exact free _ o (λz=>(J _ z).l rfl) Z I.free
 ·obtain ⟨v,o,Z,hd⟩:=I.cell x c e
  exact free c o (λz=>(J c z).c x c e rfl) Z (I.fJ x c e)
 ·obtain ⟨e,n,ne,nf,d⟩:=I.pin p hp
  have D:p.1 ∉ ch:=λz=>(J p.1 z).p p hp rfl
  exact ⟨keep p.1 p.2 ne nf D e n,free p.1 p.2 D e n,ne,nf,d⟩
theorem Inv.un {t':Nat} (I:Inv X pins σ H s) (u:Un X.fs [] H H' s.heap h') (hok:jG X.prog X.w H' h'):Inv X pins σ H' { s with heap:=h',toks:=t' }:=by
 obtain ⟨m,⟨o,es,ep,U,r⟩,_⟩:=id I.loc
 obtain ⟨sl,hL⟩:=u.any U I.free (by simp)
 exact I.step (g':=s.gens) (d':=s.drawn) (ch:=[]) (λ_ z=>nomatch z) (λb o _ D _ e n=>u.keep b o e n D (by simp)) (λb o _ D _ e n=>u.slot b o e n D (by simp)) (λb o _ e n=>u.free b o e n (by simp)) (λb o _ e=>u.there b o e (by simp)) u.o6 (λm' Z=>by
  obtain ⟨o',J,O,B,Y⟩:=Z
  rw [U] at B;cases B
  exact ⟨_,J,O,hL,Y⟩) hok I.bare
theorem Inv.call {g':Array GenState} {t':Nat} {d':Drawn} {ch:List Addr} (I:Inv X pins σ H s) (u:Un (frs X.stack) ch H H' s.heap h') (hok:jG X.prog X.w H' h') (hg:AllBare g')
  (J:∀b∈ch,FpX X pins b) :
  Inv X pins σ H' { s with heap:=h',gens:=g',drawn:=d',toks:=t' }:=by
 obtain ⟨m,⟨o,es,ep,Y,r⟩,_⟩:=id I.loc
 obtain ⟨sl,hL⟩:=u.any Y I.free λz=>(J _ z).l rfl
 exact I.step (ch:=ch) J (λb o hL hb B e n=>u.keep b o e n (λz=>(zm.mp (I.lR b z)).elim hL hb) B) (λb o _ _ B e n=>u.any e n B) (λb o B e n=>u.free b o e n B) (λb o B e=>u.there b o e B) u.o6 (λm' hm=>by
  obtain ⟨o',O,U,D,Z⟩:=hm
  rw [Y] at D;cases D
  exact ⟨_,O,U,hL,Z⟩) hok hg
theorem Inv.moved {t':Nat} {ch:List Addr} (I:Inv X pins σ H s) (hf:∀b∈ch,lz X pins H b) (k:∀b o,b ∉ ch->s.heap.get? b=some o->h'.get? b=some o) (e:∀b,b ∉ ch->b<s.heap.objs.size->H' b=H b) (hok:jG X.prog X.w H' h') :
  Inv X pins σ H' { s with heap:=h',toks:=t' }:=
 I.step (g':=s.gens) (d':=s.drawn) (ch:=ch) (λb O=>(hf b O).2) (λb o _ _ B q _=>k b o B q) (λb o _ _ B q _=>⟨o.slots,k b o B q⟩) (λb o B q n=>by rw [e b B (zA q)];exact n)
  (λb o B q=>⟨o,k b o B q⟩) (λb o u q=>by rw [e b (λz=>by rw [(hf b z).1] at q;cases q) (I.hok.lt q)];exact q) (λm J=>by
   obtain ⟨o,es,U,D,r⟩:=J
   exact ⟨o,es,U,k _ o (λz=>(hf _ z).2.l rfl) D,r⟩) hok I.bare
theorem Inv.turned {t':Nat} {B:Addr} (I:Inv X pins σ H s) (f:lz X pins H B) (k:∀b o,b≠B->s.heap.get? b=some o->h'.get? b=some o):Inv X pins σ H { s with heap:=h',toks:=t' }:=
 have m:∀b∈[B],lz X pins H b:=λb n=>zr.mp n▸f
 have D:∀b o,b ∉ [B]->s.heap.get? b=some o->h'.get? b=some o:=λb o n=>k b o λz=>n (zr.mpr z)
 I.moved m D (λ_ _ _=>rfl) (I.hok.moved (λb n=>(m b n).1) D)
theorem Inv.tok (I:Inv X pins σ H s) (t:Nat):Inv X pins σ H { s with toks:=t }:=I.un (h':=s.heap) (t':=t) Un.refl I.hok
theorem Inv.kept {t':Nat} (I:Inv X pins σ H s) (k:∀b u,s.heap.get? b=some u->h'.get? b=some u):Inv X pins σ H { s with heap:=h',toks:=t' }:=I.un (Un.kept k) (I.hok.kept k)
theorem Inv.laid (I:Inv X pins σ H s) (k:∀b u,s.heap.get? b=some u->h'.get? b=some u) (n:s.heap.objs.size<=a) (new:bK X.prog X.w (upd H a o) h' a o) :
  Inv X pins σ (upd H a o) { s with heap:=h',toks:=t' }:=I.un (Un.laid k n (I.hok.fresh n)) (I.hok.laid k n new)
theorem Inv.write (I:Inv X pins σ H s) (mu:Zn (H x)) (he:e=x\/H e=some (.own x)) (k:∀b u,b≠e->s.heap.get? b=some u->h'.get? b=some u) (n:∃u,h'.get? e=some u)
  (new:bK X.prog X.w (upd H x o) h' x o):Inv X pins σ (upd H x o) { s with heap:=h',toks:=t' }:=I.un (Un.write mu he k n) (I.hok.write mu he k n new)
theorem Inv.qX (I:Inv X pins σ H s) (h:∀p∈Gd,s.heap.get? p.1=some p.2/\H p.1=none/\p.1≠X.env.locals/\p.1 ∉ X.fs/\∀v,p.2.data≠.cell v):Inv X Gd σ H s:=
 ⟨I.ok,I.os,I.bare,I.base,I.loc,I.cell,I.free,I.fJ,λp n=>(zK.mp n).elim (λz=>I.pin p (yE _ z)) (h p),I.hok,I.len⟩
theorem rR {N:List Str} (hN:N.Nodup) {i j:Nat} {x:Str} (a:N[i]? = some x) (b:N[j]? = some x):i=j:=by
 obtain ⟨h1,e1⟩:=zp.mp a
 obtain ⟨h2,e2⟩:=zp.mp b
 exact (List.getElem_inj hN).mp (e1.trans e2.symm)
theorem j_ {M:Model} {A:Around} {E:Value->Shared->Prop} {i:Nat} {x:Str} {v:V} {u:Value} {Q:Unit->Shared->Prop} (I:Inv X pins σ H s) (hN:X.N.Nodup) (hi:X.N[i]? = some x) (O:Loc X.env.scope x) (r:RelV v u)
  (h:∀s',Inv X pins (σ.set i (some v)) H s'->(∃a,Heap.SameBut a s.heap s'.heap/\(a=X.env.locals\/X.env.cells.lookup x=some a))->Q () s') (hf:X.fn x=true\/X.env.scope.names.lookup x=some .local:=by first|exact .inl rfl|exact .inr rfl|assumption):wpAny M A (storeName X.env x u) Q E s:=by
 obtain ⟨m,hn,hl⟩:=id I.loc
 have hcls:(X.env.scope.kind == .class || (X.env.scope.kind == .module && X.env.locals != X.env.globals))=false:=by rw [I.ok.kind];rfl
 have hiσ:i<σ.length:=by rw [I.len];exact (zp.mp hi).1
 have Qt:=I.Qt
 have D:∀{a:Addr} {h':Heap},(∃o,s.heap.get? a=some o/\H a=none)->Heap.SameBut a s.heap h'->jG X.prog X.w H h':=λ{a h'} ha B b ob e=>by
  obtain ⟨_,_,U⟩:=ha
  refine (I.hok b ob e).stay (λc w' J q=>(B.2 c ?_).trans q) λ_ q=>q
  rintro rfl
  rcases J with rfl|J
  ·rw [U] at e;cases e
  ·rw [U] at J;cases J
 rcases O with Y|Y
 ·refine wpAny_storeName_local Y hn (λh' hn' B=>?_) hcls
  obtain ⟨oL,_,_,hoL,_⟩:=id hn
  refine h _ ⟨I.ok,I.os,I.bare,⟨λb o e n hb O=>?_,λb o e n hb O=>?_,I.base.free,λb o e O=>?_,I.base.o6⟩,⟨_,hn',λj y v' e1 e2 e3=>?_⟩,λy c e=>?_,I.free,I.fJ,λp hp=>?_,D ⟨oL,hoL,I.free⟩ B,by simpa using I.len⟩ ⟨_,B,.inl rfl⟩
  ·exact (B.2 b (zH (zE (zA e) I.ok.above))).trans (I.base.keep b o e n hb O)
  ·obtain ⟨sl,e1⟩:=I.base.slot b o e n hb O
   exact ⟨sl,(B.2 b (zH (zE (zA e) I.ok.above))).trans e1⟩
  ·obtain ⟨o',e1⟩:=I.base.there b o e O
   exact ⟨o',(B.2 b (zH (zE (zA e) I.ok.above))).trans e1⟩
  ·by_cases Z:j=i
   ·subst Z
    rw [hi] at e1;cases e1
    rw [zF hiσ] at e2
    cases e2
    exact ⟨u,r,.inl ⟨Y,by simp⟩⟩
   ·rw [zi (Ne.symm Z)] at e2
    obtain ⟨u',r',q⟩:=hl j y v' e1 e2 e3
    refine ⟨u',r',?_⟩
    rcases q with ⟨k,e⟩|⟨k,c,e,z⟩
    ·refine .inl ⟨k,?_⟩
     have:y≠x:=λe=>Z (rR hN e1 (e▸hi))
     simp [this,e]
    ·exact .inr ⟨k,c,e,z.sameBut B (Qt y c e)⟩
  ·obtain ⟨w',z⟩:=I.cell y c e
   exact ⟨w',z.sameBut B (Qt y c e)⟩
  ·obtain ⟨e,n,ne,nf,d⟩:=I.pin p hp
   exact ⟨(B.2 p.1 ne).trans e,n,ne,nf,d⟩
 ·have hfn:X.fn x=true:=by
   rcases hf with z|z
   ·exact z
   ·rw [z] at Y;cases Y
  obtain ⟨c,J⟩:=I.ok.has x (.inl Y)
  obtain ⟨w',z⟩:=I.cell x c J
  refine wpAny_storeName_cell I.ok.kind Y J z (λh' hc' B=>?_)
  obtain ⟨oc,hoc,acC⟩:=id z
  refine h { s with heap:=h' } ⟨I.ok,I.os,I.bare,⟨λb o e n hb O=>?_,λb o e n hb O=>?_,I.base.free,λb o e O=>?_,I.base.o6⟩,⟨m,hn.sameBut B (Ne.symm (Qt x c J)),λj y v' e1 e2 e3=>?_⟩,λy c' e=>?_,I.free,I.fJ,λp hp=>?_,D ⟨oc,hoc,I.fJ x c J⟩ B,by simpa using I.len⟩ ⟨c,B,.inr J⟩
  ·exact (B.2 b (zH (zE (zA e) (I.ok.cab x c hfn J)))).trans (I.base.keep b o e n hb O)
  ·obtain ⟨sl,e1⟩:=I.base.slot b o e n hb O
   exact ⟨sl,(B.2 b (zH (zE (zA e) (I.ok.cab x c hfn J)))).trans e1⟩
  ·obtain ⟨o',e1⟩:=I.base.there b o e O
   exact ⟨o',(B.2 b (zH (zE (zA e) (I.ok.cab x c hfn J)))).trans e1⟩
  ·by_cases Z:j=i
   ·subst Z
    rw [hi] at e1;cases e1
    rw [zF hiσ] at e2
    cases e2
    exact ⟨u,r,.inr ⟨.inl Y,c,J,hc'⟩⟩
   ·rw [zi (Ne.symm Z)] at e2
    obtain ⟨u',r',q⟩:=hl j y v' e1 e2 e3
    refine ⟨u',r',?_⟩
    rcases q with q|⟨k,c',e,z'⟩
    ·exact .inl q
    ·refine .inr ⟨k,c',e,z'.sameBut B ?_⟩
     rintro rfl
     exact Z (rR hN e1 (I.ok.inj _ _ _ e J▸hi))
  ·by_cases hcc:c'=c
   ·subst hcc;exact ⟨_,hc'⟩
   ·obtain ⟨w2,z2⟩:=I.cell y c' e
    exact ⟨w2,z2.sameBut B hcc⟩
  ·obtain ⟨e,n,ne,nf,d⟩:=I.pin p hp
   refine ⟨(B.2 p.1 ?_).trans e,n,ne,nf,d⟩
   intro q
   rw [q,hoc] at e
   have q':oc=p.2:=ya e
   exact d w' (by rw [<-q'];exact acC)
theorem rT {M:Model} {A:Around} {E:Value->Shared->Prop} {i:Nat} {x:Str} {v:V} {u:Value} {Q:Unit->Shared->Prop} (I:Inv X pins σ H s) (hN:X.N.Nodup) (hi:X.N[i]? = some x) (n:Loc X.env.scope x) (r:RelV v u)
  (h:∀s',Inv X pins (σ.set i (some v)) H s'->Q () s') (hf:X.fn x=true\/X.env.scope.names.lookup x=some .local:=by first|exact .inl rfl|exact .inr rfl|assumption):wpAny M A (storeName X.env x u) Q E s:=
 j_ I hN hi n r (λs' z _=>h s' z) hf
theorem Inv.call' {s':Shared} {ch:List Addr} (I:Inv X pins σ H s) (z:s'.os=s.os) (u:Un (frs X.stack) ch H H' s.heap s'.heap) (hok:jG X.prog X.w H' s'.heap) (B:AllBare s'.gens)
  (n:∀b∈ch,FpX X pins b):Inv X pins σ H' s':=by
 obtain ⟨h',g',d',t',o'⟩:=s'
 have e:o'=s.os:=z
 subst e
 exact I.call (g':=g') (t':=t') (d':=d') u hok B n
end
abbrev XK:=Value->Option Addr->Hp->Prop
abbrev St:=List (Option V)
abbrev VK:=V->Hp->Prop
abbrev TE:=St->Hp->VK->Prop
abbrev TT:=St->Hp->(Bool->Hp->Prop)->Prop
abbrev TA:=St->Hp->(List V->Hp->Prop)->Prop
structure Ends where
 nx:St->Hp->Prop
 rt:VK
 bk:St->Hp->Prop:=λ_ _=>False
 ct:St->Hp->Prop:=λ_ _=>False
abbrev TS:=Ends->St->Hp->Prop
def EP (X:Cx) (n:List (Addr × Obj)) (z:St) (Q:VK) (u:Value) (s':Shared):Prop:=∃v H',Inv X n z H' s'/\RelV v u/\Q v H'
def TP (X:Cx) (n:List (Addr × Obj)) (z:St) (Q:Bool->Hp->Prop) (b:Bool) (s':Shared):Prop:=∃H',Inv X n z H' s'/\Q b H'
def AP (X:Cx) (n:List (Addr × Obj)) (z:St) (Q:List V->Hp->Prop) (us:List Value) (s':Shared):Prop:=∃vs H',Inv X n z H' s'/\Vals vs us/\Q vs H'
def SP (X:Cx) (n:List (Addr × Obj)) (D:Ends) (f:Flow) (s':Shared):Prop:=
 match f with
 | .next=>∃σ' H',Inv X n σ' H' s'/\D.nx σ' H'
 | .brk=>∃σ' H',Inv X n σ' H' s'/\D.bk σ' H'
 | .cont=>∃σ' H',Inv X n σ' H' s'/\D.ct σ' H'
 | .ret u=>∃v σ' H',Inv X n σ' H' s'/\RelV v u/\D.rt v H'
def PE (X:Cx) (e:Expr) (t:TE):Prop:=
 ∀(pins:List (Addr × Obj)) (s:Shared) (σ:St) (H:Hp) (Q:VK),Inv X pins σ H s->t σ H Q->wpAny (model X.prog X.w) X.A (eval e X.env) (EP X pins σ Q) X.xe s
def PT (X:Cx) (e:Expr) (t:TT):Prop:=
 ∀(pins:List (Addr × Obj)) (s:Shared) (σ:St) (H:Hp) (Q:Bool->Hp->Prop),Inv X pins σ H s->t σ H Q->wpAny (model X.prog X.w) X.A (isTrue e X.env (eval e X.env)) (TP X pins σ Q) X.xe s
def PW (X:Cx) (e:Expr) (t:TT):Prop:=
 ∀(n:Sem Value) (pins:List (Addr × Obj)) (s:Shared) (σ:St) (H:Hp) (Q:Bool->Hp->Prop),Inv X pins σ H s->t σ H Q->wpAny (model X.prog X.w) X.A (isTrue e X.env n) (TP X pins σ Q) X.xe s
theorem PW.pt (h:PW X e t):PT X e t:=h _
def PA (X:Cx) (es:List Expr) (t:TA):Prop:=
 ∀(pos:Pos) (pins:List (Addr × Obj)) (s:Shared) (σ:St) (H:Hp) (Q:List V->Hp->Prop),Inv X pins σ H s->t σ H Q->wpAny (model X.prog X.w) X.A (spliced (backTo pos (starEach es X.env))) (AP X pins σ Q) X.xe s
def PS (X:Cx) (st:Stmt) (t:TS):Prop:=
 ∀(pins:List (Addr × Obj)) (s:Shared) (σ:St) (H:Hp) (D:Ends),Inv X pins σ H s->t D σ H->wpAny (model X.prog X.w) X.A (exec st X.env) (SP X pins D) X.xe s
def gw (X:Cx) (st:List Stmt) (t:TS):Prop:=
 ∀(pins:List (Addr × Obj)) (s:Shared) (σ:St) (H:Hp) (D:Ends),Inv X pins σ H s->t D σ H->wpAny (model X.prog X.w) X.A (execs st X.env) (SP X pins D) X.xe s
theorem bu {α:Type} {t:Sem α} {Q n:α->Shared->Prop} {M:Model} {A:Around} {E:Value->Shared->Prop} {s:Shared} (h:wpAny M A t Q E s) (hQ:∀a s,Q a s->n a s):wpAny M A t n E s:=xl h hQ λ_ _ x=>x
section
variable {X:Cx}
def An (i:Nat):TE:=λσ H Q=>∃v,σ[i]? = some (some v)/\Q v H
def tC (v:V):TE:=λ_ H Q=>Q v H
theorem Vs (hN:X.N[i]? = some x) (J:Vq X.env.scope x) (hd:(x == ("__debug__":Str))=false:=by decide) (B:(x == ("__classdict__":Str))=false:=by decide):PE X (.Name x pos) (An i):=by
 intro pins s σ H Q I h
 obtain ⟨v,e,h⟩:=h
 obtain ⟨m,O,Y⟩:=I.loc
 obtain ⟨u,r,l⟩:=Y i x v hN e J
 have fin:EP X pins σ Q u s:=⟨v,H,I,r,h⟩
 rcases l with ⟨z,U⟩|⟨z,c,D,n⟩
 ·exact wpAny_Name (wpAny_loadName_local I.ok.kind z O U fin) hd
 ·rcases z with z|z
  ·exact wpAny_Name (wpAny_loadName_cell I.ok.kind z D n fin) hd
  ·exact wpAny_Name (wpAny_loadName_free I.ok.kind z D n fin B) hd
theorem jj {i j pos}:PE X (.Constant (.int i) j pos) (tC (.int i)):=λ_ _ _ H _ I h=>wpAny_Constant_int ⟨.int i,H,I.tok _,⟨_,rfl⟩,h⟩
theorem jz {b j pos}:PE X (.Constant (.bool b) j pos) (tC (.bl b)):=λ_ _ _ H _ I h=>Constant_bool ⟨.bl b,H,I,rfl,h⟩
theorem jk {j pos}:PE X (.Constant .none j pos) (tC .non):=λ_ _ _ H _ I h=>Constant_none ⟨.non,H,I,rfl,h⟩
theorem dm {x j pos}:PE X (.Constant (.str x) j pos) (tC (.str x)):=λ_ _ _ H _ I h=>Calls.Constant_str ⟨.str x,H,I.tok _,⟨_,rfl⟩,h⟩
def Gl (X:Cx) (x:Str):Prop:=X.env.kindOf x=some .globalImplicit
theorem kh (I:Inv X pins σ H s) (z:Gl X x) (n:X.mg x=some u) (h:Q u s)
  (hd:(x == ("__debug__":Str))=false:=by decide):wpAny (model X.prog X.w) X.A (eval (.Name x pos) X.env) Q E s:=
 Calls.Name_function_global I.ok.kind z (Calls.loadGlobal_global (by rw [I.ok.glob];exact I.mod.glob.keeps I.bk) n h) hd
theorem gM {E:Value->Shared->Prop} {n:List (Addr × Obj)} {s:Shared} {z:St} {H:Hp} {x:Str} {u:Value} {pos:Pos} {Q:Value->Shared->Prop} (I:Inv X n z H s) (O:Gl X x) (J:X.mg x=none) (B:bootBuiltins x=some u) (h:Q u s)
  (D:x≠"__name__":=by decide) (hd:(x == ("__debug__":Str))=false:=by decide):wpAny (model X.prog X.w) X.A (eval (.Name x pos) X.env) Q E s:=by
 obtain ⟨U,h1,h2⟩:=I.mod.blt
 exact Calls.Name_function_global I.ok.kind O (Calls.loadGlobal_builtin (by rw [I.ok.glob];exact I.mod.glob.keeps I.bk) J (by rw [I.ok.blt];exact h1.keeps I.bk) ((h2 x D).trans B) h) hd
theorem cB (z:Gl X x) (n:X.mg x=some u) (r:RelV v u) (hd:(x == ("__debug__":Str))=false:=by decide):PE X (.Name x pos) (tC v):=
 λ_ _ _ H _ I h=>kh I z n ⟨v,H,I,r,h⟩ hd
theorem jl (D:Gl X x) (B:X.mg x=none) (n:bootBuiltins x=some u) (r:RelV v u) (z:x≠"__name__":=by decide) (hd:(x == ("__debug__":Str))=false:=by decide):PE X (.Name x pos) (tC v):=
 λ_ _ _ H _ I h=>gM I D B n ⟨v,H,I,r,h⟩ z hd
variable {a b:Expr} {ta tb:TE} {pos:Pos}
def PC (X:Cx) (B:CmpOp) (a b:Expr) (t:TE):Prop:=
 ∀(pins:List (Addr × Obj)) (s:Shared) (σ:St) (H:Hp) (Q:VK),Inv X pins σ H s->t σ H Q->
  wpAny (model X.prog X.w) X.A (eval a X.env) (λv z=>wpAny (model X.prog X.w) X.A (eval b X.env) (λu n=>wpAny (model X.prog X.w) X.A (compareOp B v u) (EP X pins σ Q) X.xe n) X.xe z) X.xe s
theorem Ao (b:Expr) {n:CmpOp} (h:n≠.In) (h2:n≠.NotIn):behindInMarks n b=false:=by
 have e1:(n == CmpOp.In)=false:=by cases n<;>first|rfl|exact absurd rfl h
 have e2:(n == CmpOp.NotIn)=false:=by cases n<;>first|rfl|exact absurd rfl h2
 cases b<;>simp [behindInMarks,e1,e2]
def acD (n:TE):TE:=λσ H Q=>n σ H λx H1=>Q (.bl (decide (x=.non))) H1
def Zq (n:TE):TE:=λσ H Q=>n σ H λx H1=>Q (.bl (!decide (x=.non))) H1
theorem RelV.Aq (r:RelV x v):(v == Value.none)=decide (x=.non):=by
 cases x with
 | non=>cases r;rfl
 | bl _=>cases r;rfl
 | int _=>obtain ⟨t,rfl⟩:=r;rfl
 | str _=>obtain ⟨t,rfl⟩:=r;rfl
 | ref _=>cases r;rfl
 | ty _=>cases r;rfl
theorem Vt {j pos'} (B:PE X a ta):PC X .Is a (.Constant .none j pos') (acD ta):=by
 intro pins s σ H Q I h
 refine bu (B pins s σ H _ I h) λv J n=>?_
 obtain ⟨x,H1,D,z,q1⟩:=n
 exact Constant_none (is_none_gen ⟨.bl _,H1,D,by rw [z.Aq];rfl,q1⟩)
theorem Qu {j pos'} (B:PE X a ta):PC X .IsNot a (.Constant .none j pos') (Zq ta):=by
 intro pins s σ H Q I h
 refine bu (B pins s σ H _ I h) λv J n=>?_
 obtain ⟨x,H1,D,z,q1⟩:=n
 exact Constant_none (isnot_none_gen ⟨.bl _,H1,D,by rw [z.Aq];rfl,q1⟩)
def tB (t:TE):TT:=λσ H Q=>t σ H λx H1=>∃c,x=.bl c/\Q c H1
theorem Vu (h:PC X op a b t) (h1:behindInMarks op b=false:=by first|exact Ao _ (by decide) (by decide)|rfl):PE X (.Compare a [op] [b] pos) t:=λpins s σ H Q I n=>wpAny_Compare1 (h pins s σ H Q I n) h1
theorem Dl {n:CmpOp} {t:TE} (h:PC X n a b t) (h1:behindInMarks n b=false:=by first|exact Ao _ (by decide) (by decide)|rfl):PT X (.Compare a [n] [b] pos) (tB t):=by
 intro pins s σ H Q I D
 refine wpAny_isTrue_Compare1 (bu (h pins s σ H _ I D) λv Y h1=>bu h1 λu U h2=>bu h2 λc O z=>?_) h1
 obtain ⟨x,H1,J,B,q1⟩:=z
 obtain ⟨d,rfl,q⟩:=q1
 cases B
 exact yj ⟨H1,J,q⟩
theorem JP {e : Expr} {t : TE} (h : PE X e t) (he : ∀ whole, isTrue e X.env whole = (do let v ← whole; standAt e.pos; holding [v] (truthy v)) := by intro _; rfl) : PT X e (tB t) := by
  intro pins s σ H Q I B
  refine isTrue_plain (bu (h pins s σ H _ I B) λv J n=>?_) (he _)
  obtain ⟨x, H1, D, z, q1⟩:=n
  obtain ⟨d, rfl, q⟩ := q1
  cases z
  exact yj ⟨H1, D, q⟩
variable {tA Qv:TT} {rest:List Expr}
def acE (t u:TT):TT:=λσ H Q=>t σ H λc H1=>if c=true then u σ H1 Q else Q false H1
def tOr (t u:TT):TT:=λσ H Q=>t σ H λc H1=>if c=true then Q true H1 else u σ H1 Q
def acF (t:TT):TT:=λσ H Q=>t σ H λc H1=>Q (!c) H1
theorem pw_and1 (n:PT X a tA):PW X (.BoolOp .And [a] pos) tA:=by
 intro z pins s σ H Q I h
 refine isTrue_and (bu (n pins s σ H Q I h) λc B e=>?_)
 cases c with
 | true=>exact isTrue_and_nil e
 | false=>exact e
theorem pw_or1 (n:PT X a tA):PW X (.BoolOp .Or [a] pos) tA:=by
 intro z pins s σ H Q I h
 refine isTrue_or (bu (n pins s σ H Q I h) λc B e=>?_)
 cases c with
 | false=>exact isTrue_or_nil e
 | true=>exact e
theorem pw_and (J:PT X a tA) (D:PW X (.BoolOp .And (b::rest) pos) Qv):PW X (.BoolOp .And (a::b::rest) pos) (acE tA Qv):=by
 intro z pins s σ H Q I h
 refine isTrue_and (bu (J pins s σ H _ I h) λc B ⟨H1,n,q1⟩=>?_)
 cases c with
 | true=>exact D z pins B σ H1 Q n q1
 | false=>exact ⟨H1,n,q1⟩
theorem pw_or (J:PT X a tA) (D:PW X (.BoolOp .Or (b::rest) pos) Qv):PW X (.BoolOp .Or (a::b::rest) pos) (tOr tA Qv):=by
 intro z pins s σ H Q I h
 refine isTrue_or (bu (J pins s σ H _ I h) λc B ⟨H1,n,q1⟩=>?_)
 cases c with
 | true=>exact ⟨H1,n,q1⟩
 | false=>exact D z pins B σ H1 Q n q1
theorem JR (n:PT X a tA):PT X (.UnaryOp .Not a pos) (acF tA):=by
 intro pins s σ H Q I h
 exact isTrue_not (n pins s σ H (λc H1=>Q (!c) H1) I h)
def Zr (z n:TE):TE:=λσ H Q=>z σ H λx H1=>∃c,x=.bl c/\if c=true then n σ H1 Q else Q (.bl false) H1
def acG (z n:TE):TE:=λσ H Q=>z σ H λx H1=>∃c,x=.bl c/\if c=true then Q (.bl true) H1 else n σ H1 Q
def Zt (n:TE):TE:=λσ H Q=>n σ H λx H1=>∃c,x=.bl c/\Q (.bl (!c)) H1
theorem Vv {op} (h:PE X a t):PE X (.BoolOp op [a] pos) t:=λpins s σ H Q I n=>BoolOp_one (h pins s σ H Q I n)
theorem Vw (O:PE X a ta) (J:PE X (.BoolOp .And (b::rest) pos) tb):PE X (.BoolOp .And (a::b::rest) pos) (Zr ta tb):=by
 intro pins s σ H Q I h
 refine BoolOp_and (bu (O pins s σ H _ I h) λv B z=>?_)
 obtain ⟨x,H1,n,D,q1⟩:=z
 obtain ⟨c,rfl,q1⟩:=q1
 cases D
 refine yj ?_
 cases c with
 | true=>exact J pins B σ H1 Q n q1
 | false=>exact ⟨.bl false,H1,n,rfl,q1⟩
theorem Zu (O:PE X a ta) (J:PE X (.BoolOp .Or (b::rest) pos) tb):PE X (.BoolOp .Or (a::b::rest) pos) (acG ta tb):=by
 intro pins s σ H Q I h
 refine BoolOp_or (bu (O pins s σ H _ I h) λv B z=>?_)
 obtain ⟨x,H1,n,D,q1⟩:=z
 obtain ⟨c,rfl,q1⟩:=q1
 cases D
 refine yj ?_
 cases c with
 | false=>exact J pins B σ H1 Q n q1
 | true=>exact ⟨.bl true,H1,n,rfl,q1⟩
theorem Vx (B:PE X a ta):PE X (.UnaryOp .Not a pos) (Zt ta):=by
 intro pins s σ H Q I h
 refine UnaryOp_ (bu (B pins s σ H _ I h) λv J n=>?_)
 obtain ⟨x,H1,D,z,q1⟩:=n
 obtain ⟨c,rfl,q1⟩:=q1
 cases z
 exact not_of (yj ⟨.bl (!c),H1,D,rfl,q1⟩)
def tIf (t:TT) (z n:TE):TE:=λσ H Q=>t σ H λc H1=>if c=true then z σ H1 Q else n σ H1 Q
theorem JS {c:Expr} (B:PT X c tA) (J:PE X a ta) (D:PE X b tb):PE X (.IfExp c a b pos) (tIf tA ta tb):=by
 intro pins s σ H Q I h
 refine wpAny_IfExp (bu (B pins s σ H _ I h) λd n ⟨H1,z,q1⟩=>?_)
 cases d with
 | true=>exact J pins n σ H1 Q z q1
 | false=>exact D pins n σ H1 Q z q1
end
def iV (K:PySem.W.Frag) (H:Hp) (a:Addr) (xs:List V):Prop:=
 Rd H a (.lst xs) \/
  ∃(o:Obj) (z:Array Value) (n:Nat),K.lookup a=some o/\o.cls=.type "list"/\o.dict=none/\o.data=.seq z n/\z.size<=sizeLine/\Vals xs z.toList
def Dm (K:PySem.W.Frag) (H:Hp) (a:Addr) (xs:List V):Prop:=
 Rd H a (.tup xs) \/
  ∃(o:Obj) (z:Array Value) (n:Nat),K.lookup a=some o/\o.cls=.type "tuple"/\o.data=.seq z n/\z.size<=sizeLine/\Vals xs z.toList
def acH:Value->Option V
 | .none=>some .non
 | .bool b=>some (.bl b)
 | .int i _=>some (.int i)
 | .str x _=>some (.str x)
 | .ref a=>some (.ref a)
 | .type n=>some (.ty n)
 | _=>none
theorem RelV.abs (r:RelV x u):acH u=some x:=by
 cases x with
 | non=>cases r;rfl
 | bl _=>cases r;rfl
 | int _=>obtain ⟨t,rfl⟩:=r;rfl
 | str _=>obtain ⟨t,rfl⟩:=r;rfl
 | ref _=>cases r;rfl
 | ty _=>cases r;rfl
theorem RelV.inj (r:RelV x u) (q:RelV y u):x=y:=ya (r.abs.symm.trans q.abs)
theorem Vals.inj:∀{xs ys:List V} {n:List Value},Vals xs n->Vals ys n->xs=ys
 | _,_,_,.nil,.nil=>rfl
 | _,_,_,.cons r t,.cons r' t'=>by rw [r.inj r',Vals.inj t t']
section
variable {X:Cx} {pins:List (Addr × Obj)} {σ:St} {H:Hp} {s:Shared} {a:Addr} {xs ys:List V}
theorem iV.of {K:PySem.W.Frag} (h:H a=some (.lst xs)):iV K H a xs:=.inl (.inl h)
theorem Dm.of {K:PySem.W.Frag} (h:H a=some (.tup xs)):Dm K H a xs:=.inl (.inl h)
theorem Inv.list (I:Inv X pins σ H s) (h:iV X.K H a xs):∃B:List Value,Vals xs B/\PlainL s.heap a B.toArray/\xs.length<=sizeLine:=by
 rcases h with h|⟨o,B,n,J,O,hd,D,U,r⟩
 ·obtain ⟨z,B,n,r,e⟩:=h.ok I.hok
  exact ⟨B,r,⟨_,n,e,rfl,rfl,rfl⟩,z⟩
 ·refine ⟨B.toList,r,⟨o,n,I.rQ a o J,O,hd,by simpa using D⟩,?_⟩
  have e:=r.length
  simp only [yI] at e
  omega
theorem Inv.tuple (I:Inv X pins σ H s) (h:Dm X.K H a xs):∃B:List Value,Vals xs B/\IsTup s.heap a B.toArray/\xs.length<=sizeLine:=by
 rcases h with h|⟨o,B,n,J,O,D,U,r⟩
 ·obtain ⟨z,B,r,p⟩:=h.ok I.hok
  exact ⟨B,r,p,z⟩
 ·refine ⟨B.toList,r,⟨o,I.rQ a o J,O,n,by simpa using D⟩,?_⟩
  have e:=r.length
  simp only [yI] at e
  omega
theorem Inv.rW (I:Inv X pins σ H s) (h:iV X.K H a xs) (h':iV X.K H a ys):xs=ys:=by
 obtain ⟨z,r,⟨o,n,e,_,_,d⟩,_⟩:=I.list h
 obtain ⟨its',J,⟨o',O,B,_,_,D⟩,_⟩:=I.list h'
 rw [e] at B;cases B
 rw [d] at D
 injection D with d1 _
 have:z=its':=by simpa using yd Array.toList d1
 subst this
 exact r.inj J
theorem Inv.HX (I:Inv X pins σ H s) (h:Dm X.K H a xs) (h':Dm X.K H a ys):xs=ys:=by
 obtain ⟨z,r,⟨o,e,_,n,d⟩,_⟩:=I.tuple h
 obtain ⟨its',J,⟨o',B,_,O,D⟩,_⟩:=I.tuple h'
 rw [e] at B;cases B
 rw [d] at D
 injection D with d1 _
 have:z=its':=by simpa using yd Array.toList d1
 subst this
 exact r.inj J
end
abbrev Cx.wish (X:Cx) (E:Value->Shared->Prop):Cx:={ X with xe:=E }
abbrev Cx.Ue (X:Cx):Cx:=X.wish λ_ _=>False
theorem Cx.Ok.wish {X:Cx} (ok:X.Ok) (E:Value->Shared->Prop):(X.wish E).Ok:=
 ⟨ok.mod,ok.kind,ok.glob,ok.blt,ok.above,ok.inj,ok.has,ok.cab,ok.hd,ok.frames,ok.stk,ok.Vr,ok.bs,ok.HW,ok.uG,ok.vP,ok.jD,ok.JG⟩
theorem Cx.Ok.jJ {X:Cx} (ok:(X.wish E).Ok):X.Ok:=
 ⟨ok.mod,ok.kind,ok.glob,ok.blt,ok.above,ok.inj,ok.has,ok.cab,ok.hd,ok.frames,ok.stk,ok.Vr,ok.bs,ok.HW,ok.uG,ok.vP,ok.jD,ok.JG⟩
section
variable {X:Cx} {pins:List (Addr × Obj)} {σ:St} {H:Hp} {s:Shared} {E:Value->Shared->Prop}
theorem Inv.wish (I:Inv X pins σ H s) (E:Value->Shared->Prop):Inv (X.wish E) pins σ H s:=⟨I.ok.wish E,I.os,I.bare,I.base,I.loc,I.cell,I.free,I.fJ,I.pin,I.hok,I.len⟩
theorem Inv.jJ (I:Inv (X.wish E) pins σ H s):Inv X pins σ H s:=⟨I.ok.jJ,I.os,I.bare,I.base,I.loc,I.cell,I.free,I.fJ,I.pin,I.hok,I.len⟩
theorem SP.jJ {D:Ends} (h:SP (X.wish E) pins D f s'):SP X pins D f s':=by
 cases f with
 | next=>obtain ⟨σ',H',I,q⟩:=h;exact ⟨σ',H',I.jJ,q⟩
 | brk=>obtain ⟨σ',H',I,q⟩:=h;exact ⟨σ',H',I.jJ,q⟩
 | cont=>obtain ⟨σ',H',I,q⟩:=h;exact ⟨σ',H',I.jJ,q⟩
 | ret u=>obtain ⟨v,σ',H',I,r,q⟩:=h;exact ⟨v,σ',H',I.jJ,r,q⟩
theorem gw.Ue {st:List Stmt} {t:TS} (h:gw X.Ue st t):gw X st t:=λpins s σ H D I n=>
 xl (h pins s σ H D (I.wish _) n) (λ_ _ q=>q.jJ) λ_ _ z=>False.elim z
end
section
variable {X:Cx} {st:Stmt} {rest:List Stmt} {t u:TS} {e:Expr} {te:TE} {pos:Pos}
def Zv:TS:=λD σ H=>D.nx σ H
def acI (t u:TS):TS:=λD σ H=>t { D with nx:=u D } σ H
theorem vQ:gw X [] Zv:=λ_ _ σ H _ I h=>xD ⟨σ,H,I,h⟩
theorem Ar (h1:PS X st t) (h2:gw X rest u):gw X (st::rest) (acI t u):=by
 intro pins s σ H D I h
 refine wpAny_execs_cons (bu (h1 pins s σ H { D with nx:=u D } I h) λf n q=>?_)
 cases f with
 | next=>
  obtain ⟨σ',H',z,q⟩:=q
  exact h2 pins n σ' H' D z q
 | ret v=>exact q
 | brk=>exact q
 | cont=>exact q
theorem Ge (h1:PS X st t):gw X [st] t:=by
 intro pins s σ H D I h
 refine wpAny_execs_cons (bu (h1 pins s σ H D I h) λf n q=>?_)
 cases f with
 | next=>exact xD q
 | ret v=>exact q
 | brk=>exact q
 | cont=>exact q
theorem Inv.quiet (I:Inv X pins σ H s):interactive X.env=false:=by simp [interactive,I.ok.kind]
def Zw (n:TE):TS:=λD σ H=>n σ H λ_ H1=>D.nx σ H1
theorem Gf (he:PE X e te) (z:swapsWith e none pos.line X.env=pure false:=by rfl):PS X (.Expr e pos) (Zw te):=by
 intro pins s σ H D I h
 exact wpAny_Expr_any (bu (he pins s σ H _ I h) λv J n=>by obtain ⟨x,H1,B,O,q1⟩:=n;exact ⟨σ,H1,B,q1⟩) I.quiet z
def acJ (n:TE):TS:=λD σ H=>n σ H D.rt
theorem JT (he:PE X e te):PS X (.Return (some e) pos) (acJ te):=by
 intro pins s σ H D I h
 exact wpAny_Return_some (bu (he pins s σ H _ I h) λv J n=>by obtain ⟨x,H1,B,z,q1⟩:=n;exact ⟨x,σ,H1,B,z,q1⟩)
def acK (c:TT) (t u:TS):TS:=λD σ H=>c σ H λb H1=>if b=true then t D σ H1 else u D σ H1
theorem JV {c:Expr} {a b:List Stmt} {n:TT} (J:PT X c n) (U:gw X a t) (O:gw X b u):PS X (.If c a b pos) (acK n t u):=by
 intro pins s σ H D I h
 refine wpAny_If (bu (J pins s σ H _ I h) λd z ⟨H1,B,q1⟩=>?_)
 cases d with
 | true=>exact U pins z σ H1 D B q1
 | false=>exact O pins z σ H1 D B q1
end
abbrev TG:=V->St->Hp->(St->Hp->Prop)->Prop
abbrev Qw:=List V->St->Hp->(St->Hp->Prop)->Prop
def PG (X:Cx) (n:Expr) (t:TG):Prop:=
 ∀(pins:List (Addr × Obj)) (s:Shared) (σ:St) (H:Hp) (v:V) (u:Value) (Q:St->Hp->Prop),Inv X pins σ H s->RelV v u->t v σ H Q->
  wpAny (model X.prog X.w) X.A (assign n X.env u) (λ_ s'=>∃σ' H',Inv X pins σ' H' s'/\Q σ' H') X.xe s
def vR (X:Cx) (ts:List Expr) (t:Qw):Prop:=
 ∀(pins:List (Addr × Obj)) (s:Shared) (σ:St) (H:Hp) (vs:List V) (us:List Value) (Q:St->Hp->Prop),Inv X pins σ H s->Vals vs us->t vs σ H Q->
  wpAny (model X.prog X.w) X.A (assignInOrder ((assignEach ts X.env).map (·.2)) us) (λ_ s'=>∃σ' H',Inv X pins σ' H' s'/\Q σ' H') X.xe s
abbrev JW:=V->V->V->Hp->(Hp->Prop)->Prop
def Vy (X:Cx) (t:JW):Prop:=
 ∀(pins:List (Addr × Obj)) (s:Shared) (σ:St) (H:Hp) (o i v:V) (ov iv u:Value) (Q:Hp->Prop),Inv X pins σ H s->RelV o ov->RelV i iv->RelV v u->t o i v H Q->
  wpAny (model X.prog X.w) X.A (setItem ov iv u) (λ_ s'=>∃H',Inv X pins σ H' s'/\Q H') X.xe s
abbrev Za:=V->V->Hp->VK->Prop
def Zx (X:Cx) (n:Operator) (t:Za):Prop:=
 ∀(pins:List (Addr × Obj)) (s:Shared) (σ:St) (H:Hp) (x y:V) (v u:Value) (Q:VK),Inv X pins σ H s->RelV x v->RelV y u->t x y H Q->
  wpAny (model X.prog X.w) X.A (inplaceOp n v u) (EP X pins σ Q) X.xe s
section
variable {X:Cx} {pos:Pos}
def Av (i:Nat):TG:=λv σ H Q=>Q (σ.set i (some v)) H
theorem Gg (hN:X.N.Nodup) (hi:X.N[i]? = some x) (n:Loc X.env.scope x) (hf:X.fn x=true\/X.env.scope.names.lookup x=some .local:=by first|exact .inl rfl|exact .inr rfl|assumption):PG X (.Name x pos) (Av i):=by
 intro pins s σ H v u Q I r h
 exact wpAny_assign_Name (rT I hN hi n r (λs' z=>⟨_,H,z,h⟩) hf)
def acL:Qw:=λvs σ H Q=>vs=[]/\Q σ H
def Zy (t:TG) (u:Qw):Qw:=λvs σ H Q=>∃v r,vs=v::r/\t v σ H λσ' H'=>u r σ' H' Q
theorem vU:vR X [] acL:=by
 intro pins s σ H vs n Q I r h
 obtain ⟨e,h⟩:=h
 subst e
 cases r
 exact assignInOrder_nil ⟨σ,H,I,h⟩
theorem Ax {e:Expr} {es:List Expr} {t:TG} {u:Qw} (h1:PG X e t) (h2:vR X es u)
  (D:(assignEach (e::es) X.env).map (·.2)=assign e X.env::(assignEach es X.env).map (·.2):=by rfl):vR X (e::es) (Zy t u):=by
 intro pins s σ H vs U Q I r h
 obtain ⟨v,O,e1,h⟩:=h
 subst e1
 cases r with
 | cons r rr=>
  rw [D]
  refine assignInOrder_cons (bu (h1 pins s σ H _ _ _ I r h) λ_ B z=>?_)
  obtain ⟨n,H1,J,q1⟩:=z
  exact h2 pins B n H1 _ _ Q J rr q1
def Zz (K:PySem.W.Frag) (n:Nat) (t:Qw):TG:=λv σ H Q=>∃a xs,v=.ref a/\Dm K H a xs/\xs.length=n/\t xs σ H Q
theorem Vz {k:Nat} (hc:X.calm=true) (h:vR X es t)
  (Z:(assignEach es X.env).length=n:=by rfl) (B:(assignEach es X.env).findIdx? (·.1)=none:=by rfl):PG X (.Tuple es k pos) (Zz X.K n t):=by
 intro pins s σ H v u Q I r z
 obtain ⟨a,xs,e1,Y,hl,z⟩:=z
 subst e1
 cases r
 obtain ⟨J,D,U,hz⟩:=I.tuple Y
 refine assign_Tuple_tuple (I.ok.hd hc) U (by simp [Z,<-hl,D.length]) B λh' O=>?_
 have I1:Inv X pins σ H { s with heap:=h' }:=I.kept (t':=s.toks) λb o e=>O b o (zH (zA e)) e
 exact h pins _ σ H xs _ Q I1 (by simpa using D) z
def acM (n ti:TE) (t:JW):TG:=λv σ H Q=>n σ H λo H1=>ti σ H1 λi H2=>t o i v H2 λz=>Q σ z
theorem JX {o i : Expr} {D ti : TE} {t : JW} (ho : PE X o D) (hi : PE X i ti) (hs : Vy X t)
    (ha : ∀ v, assign (.Subscript o i pos) X.env v = (do
      let n ← holding [v] (eval o X.env)
      let B ← holding [v, n] (eval i X.env)
      standAt pos
      holding [v, n, B] (setItem n B v)
      release [v, n, B] []) := by intro _; rfl) : PG X (.Subscript o i pos) (acM D ti t) := by
  intro pins s σ H v u Q I r h
  rw [ha]
  refine zd (zU (bu (ho pins s σ H _ I h) λn O z=>?_))
  obtain ⟨x, H1, I1, Y, q1⟩:=z
  refine zd (zU (bu (hi pins O σ H1 _ I1 q1) λB J z=>?_))
  obtain ⟨y, H2, I2, U, q2⟩:=z
  refine zd (xq (zd (zU (bu (hs pins J σ H2 x y v n B u _ I2 Y U r q2) λ_ s3 z=>?_))))
  obtain ⟨H3, I3, Z⟩:=z
  exact wpAny_release ⟨σ, H3, I3, Z⟩
def JZ (n:TE) (g:TG):TS:=λD σ H=>n σ H λx H1=>g x σ H1 D.nx
theorem Dn {n e:Expr} {z:TE} {g:TG} (he:PE X e z) (Z:PG X n g) (Y:swapsWithSole [n] e pos.line X.env=pure false:=by rfl) (U:swappedStores [n] e X.env=pure none:=by rfl)
  (h1:(assignEach [n] X.env).map (·.2)=[assign n X.env]:=by rfl):PS X (.Assign [n] e pos) (JZ z g):=by
 intro pins s σ H D I h
 refine wpAny_Assign_stores (bu (he pins s σ H _ I h) λv J B=>?_) Y U
 obtain ⟨x,H1,I1,O,q1⟩:=B
 rw [h1]
 exact bu (Z pins J σ H1 x v _ I1 O q1) λ_ s2 q=>q
theorem Dp {i:Nat} {x:Str} {e:Expr} {z:TE} {n:Pos} (hN:X.N.Nodup) (hi:X.N[i]? = some x) (O:Loc X.env.scope x) (he:PE X e z) (U:swapsWith e (some (.Name x n)) pos.line X.env=pure false:=by rfl) (hf:X.fn x=true\/X.env.scope.names.lookup x=some .local:=by first|exact .inl rfl|exact .inr rfl|assumption) :
  PS X (.Assign [.Name x n] e pos) (JZ z (Av i)):=by
 intro pins s σ H D I h
 refine wpAny_Assign_Name (bu (he pins s σ H _ I h) λv s1 B=>?_) U
 obtain ⟨y,H1,Z,J,q1⟩:=B
 exact rT Z hN hi O J (λs2 Y=>⟨_,H1,Y,q1⟩) hf
def acN (i:Nat) (n:TE) (ti:Za):TS:=λD σ H=>∃x,σ[i]? = some (some x)/\n σ H λy H1=>ti x y H1 λz H2=>D.nx (σ.set i (some z)) H2
theorem VB {i:Nat} {x:Str} {e:Expr} {te:TE} {op:Operator} {ti:Za} {U:Pos} (hN:X.N.Nodup) (hi:X.N[i]? = some x) (hx:Loc X.env.scope x) (he:PE X e te) (ho:Zx X op ti) (hf:X.fn x=true\/X.env.scope.names.lookup x=some .local:=by first|exact .inl rfl|exact .inr rfl|assumption) :
  PS X (.AugAssign (.Name x U) op e pos) (acN i te ti):=by
 intro pins s σ H D I h
 obtain ⟨v,e1,h⟩:=h
 obtain ⟨m,hn,hl⟩:=I.loc
 have Z:Vq X.env.scope x:=by rcases hx with k|k;exact .inl k;exact .inr (.inl k)
 obtain ⟨u,r,l⟩:=hl i x v hi e1 Z
 refine wpAny_AugAssign_Name ?_
 have go:wpAny (model X.prog X.w) X.A (eval e X.env) (λw O=>wpAny (model X.prog X.w) X.A (inplaceOp op u w) (λr J=>wpAny (model X.prog X.w) X.A (storeName X.env x r) (λ_=>SP X pins D .next) X.xe J) X.xe O) X.xe s:=by
  refine bu (he pins s σ H _ I h) λw s1 Y=>?_
  obtain ⟨y,H1,I1,r1,q1⟩:=Y
  refine bu (ho pins s1 σ H1 v y u w _ I1 r r1 q1) λz s2 Y=>?_
  obtain ⟨zv,H2,I2,r2,q2⟩:=Y
  exact rT I2 hN hi hx r2 (λs3 I3=>⟨_,H2,I3,q2⟩) hf
 rcases l with ⟨n,hm⟩|⟨n,c,hc,B⟩
 ·exact wpAny_loadName_local I.ok.kind n hn hm go
 ·rcases n with n|n
  ·exact wpAny_loadName_cell I.ok.kind n hc B go
  ·rcases hx with k|k
   ·have:X.env.scope.names.lookup x=some .free:=n
    rw [k] at this;cases this
   ·have:X.env.scope.names.lookup x=some .free:=n
    rw [k] at this;cases this
def ZC (J ti O:TE) (B:V->V->Hp->VK->Prop) (I:Za) (n:JW):TS:=λD σ H=>J σ H λo H1=>ti σ H1 λi H2=>B o i H2 λx H3=>O σ H3 λy Z=>I x y Z λz Y=>n o i z Y λU=>D.nx σ U
def ZD (X:Cx) (t:V->V->Hp->VK->Prop):Prop:=
 ∀(pins:List (Addr × Obj)) (s:Shared) (σ:St) (H:Hp) (o i:V) (ov iv:Value) (Q:VK),Inv X pins σ H s->RelV o ov->RelV i iv->t o i H Q->
  wpAny (model X.prog X.w) X.A (getItem ov iv) (EP X pins σ Q) X.xe s
theorem Qx {o i e : Expr} {to ti te : TE} {B : V → V → Hp → VK → Prop} {Y : Za} {z : JW} {op : Operator} {U : Pos} (ho : PE X o to) (hi : PE X i ti) (hg : ZD X B) (he : PE X e te) (hp : Zx X op Y) (hs : Vy X z)
    (ha : ∀ J O new, augStore i J O new = (do holding [new, J, O] (setItem J O new); release [new, J, O] []; pure .next) := by intros; rfl) : PS X (.AugAssign (.Subscript o i U) op e pos) (ZC to ti te B Y z) := by
  intro pins s σ H D I h
  refine wpAny_AugAssign_SubscriptAny (bu (ho pins s σ H _ I h) λJ s1 n=>?_) ha
  obtain ⟨x1, H1, I1, r1, q1⟩:=n
  refine bu (hi pins s1 σ H1 _ I1 q1) λO s2 n=>?_
  obtain ⟨x2, H2, I2, r2, q2⟩:=n
  refine bu (hg pins s2 σ H2 x1 x2 J O _ I2 r1 r2 q2) λZ s3 n=>?_
  obtain ⟨x3, H3, I3, r3, q3⟩:=n
  refine bu (he pins s3 σ H3 _ I3 q3) λv s4 n=>?_
  obtain ⟨x4, H4, I4, r4, q4⟩:=n
  refine bu (hp pins s4 σ H4 x3 x4 Z v _ I4 r3 r4 q4) λnew s5 n=>?_
  obtain ⟨x5, H5, I5, r5, q5⟩:=n
  exact bu (hs pins s5 σ H5 x1 x2 x5 J O new _ I5 r1 r2 r5 q5) λ_ s6 ⟨H6, I6, q6⟩ => ⟨σ, H6, I6, q6⟩
def ipI (f:Int->Int->Int):Za:=λx y H Q=>∃i j,x=.int i/\y=.int j/\Q (.int (f i j)) H
theorem VD:Zx X .Add (ipI λi j=>i+j):=by
 intro pins s σ H x y v u Q I z n h
 obtain ⟨i,j,e1,e2,q⟩:=h
 subst e1;subst e2
 obtain ⟨t,rfl⟩:=z
 obtain ⟨B,rfl⟩:=n
 exact iadd_int ⟨.int _,H,I.tok _,⟨_,rfl⟩,q⟩
theorem VF:Zx X .Sub (ipI λi j=>i - j):=by
 intro pins s σ H x y v u Q I z n h
 obtain ⟨i,j,e1,e2,q⟩:=h
 subst e1;subst e2
 obtain ⟨t,rfl⟩:=z
 obtain ⟨B,rfl⟩:=n
 exact isub_int ⟨.int _,H,I.tok _,⟨_,rfl⟩,q⟩
end
section
variable {X:Cx} {pos:Pos}
def VG (c:TT) (z:TS):TS:=λD σ H=>∃W:Nat->St->Hp->Prop,(∃m,W m σ H)/\∀m σ H,W m σ H->
 c σ H λb H1=>if b=true then ∃N:St->Hp->Prop,(∀σ' H',N σ' H'->∃n,n<m/\W n σ' H')/\z { D with nx:=N,ct:=N,bk:=D.nx } σ H1 else D.nx σ H1
theorem Ay {c:Expr} {body:List Stmt} {tc:TT} {tb:TS} (hp:PassesOwn (model X.prog X.w) X.A X.env X.xe) (hc:PT X c tc) (hb:gw X body tb):PS X (.While c body [] pos) (VG tc tb):=by
 intro pins s σ H D I h
 obtain ⟨W,⟨m0,w0⟩,turn⟩:=h
 refine wpAny_While (codeAny_whileLoop (λn s'=>∃σ' H',Inv X pins σ' H' s'/\W n σ' H') ?_ m0 ⟨σ,H,I,w0⟩)
 rintro n s1 ⟨B,H1,I1,w1⟩
 refine xg hp (bu (hc pins s1 B H1 _ I1 (turn n B H1 w1)) λb s2 ⟨H2,I2,q2⟩=>?_)
 cases b with
 | true=>
  obtain ⟨N,hN,q2⟩:=q2
  rw [zo rfl]
  refine xg hp (bu (hb pins s2 B H2 _ I2 q2) λf s3 O=>?_)
  cases f with
  | next=>
   obtain ⟨z,J,I3,n3⟩:=O
   obtain ⟨Y,Z,U⟩:=hN z J n3
   exact ⟨Y,Z,z,J,I3,U⟩
  | cont=>
   obtain ⟨z,J,I3,n3⟩:=O
   obtain ⟨Y,Z,U⟩:=hN z J n3
   exact ⟨Y,Z,z,J,I3,U⟩
  | brk=>exact O
  | ret v=>exact O
 | false=>
  rw [zh y9]
  exact xD ⟨B,H2,I2,q2⟩
end
structure It where
 go:Nat->Hp->Prop
 Ug:Nat->Hp->V->Hp->Prop
 stop:Nat->Hp->Prop
theorem Inv.VH {B:Hp} {s:Shared} (I:Inv X pins σ H s) (n:s.heap.objs.size<=b) (J:B b=none):lz X pins B b:=by
 refine ⟨J,Nat.ne_of_gt (zE I.lt n),I.Zo n,.inr (Heap.get?_none_of_le (zY I.sz n)),λx c e z=>?_,λp D z=>?_⟩
 ·obtain ⟨v,q⟩:=I.cell x c e
  exact absurd (zE q.lt (by rw [z];exact n)) (xi _)
 ·exact absurd (zE (zA (I.pin p D).1) (by rw [z];exact n)) (xi _)
structure Turn (P:Program) (w:World) (K:PySem.W.Frag) (tg:Expr) (J:It) (fp:List Addr) (it:Addr) (tn:Nat->Heap->Prop):Prop where
 mem:it∈fp
 obj:∀i h,tn i h->∀b∈fp,∃o,h.get? b=some o/\∀v,o.data≠.cell v
 keep:∀i h h',tn i h->(∀b∈fp,∀o,h.get? b=some o->h'.get? b=some o)->tn i h'
 item:∀(X:Cx),X.prog=P->X.w=w->X.K=K->X.calm=true->∀(i:Nat) (pins:List (Addr × Obj)) (s:Shared) (σ:St) (H:Hp) (E:Value->Shared->Prop),Inv X pins σ H s->(∀b∈fp,lz X pins H b)->tn i s.heap->J.go i H->
  wpAny (model P w) X.A (pyNext (.ref it)) (λr s1=>∃u,r=some u /\
   wpAny (model P w) X.A (letOwnedTupleGo tg (.ref it) u) (λ_ s2=>∃x H',Inv X pins σ H' s2/\RelV x u/\J.Ug i H x H'/\tn (i+1) s2.heap/\∀b∈fp,H' b=none) E s1) E s
 done:∀(X:Cx),X.prog=P->X.w=w->X.K=K->X.calm=true->∀(i:Nat) (pins:List (Addr × Obj)) (s:Shared) (σ:St) (H:Hp) (E:Value->Shared->Prop),Inv X pins σ H s->(∀b∈fp,lz X pins H b)->tn i s.heap->J.stop i H->
  wpAny (model P w) X.A (pyNext (.ref it)) (λr s1=>r=none/\Inv X pins σ H s1) E s
 self:∀(A:Around) (i:Nat) (s:Shared) (Q:Value->Shared->Prop) (E:Value->Shared->Prop),tn i s.heap->Q (.ref it) s->wpAny (model P w) A (pyIter (.ref it)) Q E s
abbrev TI:=St->Hp->(It->Hp->Prop)->Prop
def PIE (X:Cx) (n:List (Addr × Obj)) (O:St) (U:Expr) (R:It->Hp->Prop) (z:Value) (D:Shared):Prop:=
 ∃(I:Addr) (fp:List Addr) (B:Nat->Heap->Prop) (J:It) (H':Hp),z=.ref I/\Inv X n O H' D/\Turn X.prog X.w X.K U J fp I B/\B 0 D.heap/\(∀b∈fp,lz X n H' b)/\R J H'
def PI (X:Cx) (B n:Expr) (z:TI):Prop:=
 ∀(pins:List (Addr × Obj)) (s:Shared) (σ:St) (H:Hp) (R:It->Hp->Prop),Inv X pins σ H s->z σ H R->
  wpAny (model X.prog X.w) X.A (eval n X.env) (λv D=>wpAny (model X.prog X.w) X.A (pyIter v) (PIE X pins σ B R) X.xe D) X.xe s
abbrev VJ:List String:=["enumerate","zip","dict_itemiterator","dict_reverseitemiterator","odict_iterator","itertools.zip_longest","itertools.pairwise"]
theorem ZF {M : Model} {A : Around} {E : Value → Shared → Prop} {s : Shared} {z : Expr} {B : Addr} {u : Value} {o : Obj} {n : String} {vs : Array Value} {Q : Unit → Shared → Prop} (D : s.heap.get? B = some o) (J : o.cls = .type n) (hd : o.data = .fields vs)
    (I : VJ.contains n = false) (hQ : Q () s) : wpAny M A (letOwnedTupleGo z (.ref B) u) Q E s := by
  unfold letOwnedTupleGo
  cases z <;> first
    | exact zB hQ
    | (cases u <;> first
        | exact zB hQ
        | (refine zd (wpAny_load D ?_)
           rw [J, hd]
           show wpAny M A (if (VJ.contains n && vs[0]? == some (rawInt _)) = true then _ else _) Q E s
           rw [zh (by intro h; rw [I, Bool.false_and] at h; cases h)]
           exact zB hQ))
def Itl (K:PySem.W.Frag) (a:Addr):It:=
 ⟨λi H=>∃xs x,iV K H a xs/\xs[i]? = some x,λi H x H'=>H'=H/\∀xs,iV K H a xs->xs[i]? = some x,λi H=>∃xs,iV K H a xs/\xs.length<=i⟩
def Zb (lo d:Int) (n:Nat):It:=⟨λi _=>i<n,λi H x H'=>H'=H/\x=.int (lo+i * d),λi _=>n<=i⟩
theorem nu {P:Program} {w:World} {K:PySem.W.Frag} {tg:Expr} {J:It} {B:Addr} {D:Nat->Heap->Prop} {n:String} (hn:VJ.contains n=false) (obj:∀i h,D i h->∃o vs,h.get? B=some o/\o.cls=.type n/\o.data=.fields vs)
  (keep:∀i h h',D i h->(∀o,h.get? B=some o->h'.get? B=some o)->D i h')
  (item:∀(X:Cx),X.prog=P->X.w=w->X.K=K->X.calm=true->∀(i:Nat) (pins:List (Addr × Obj)) (s:Shared) (σ:St) (H:Hp) (E:Value->Shared->Prop) (Q:Option Value->Shared->Prop),Inv X pins σ H s->D i s.heap->J.go i H->
   (∀u x h' tk,RelV x u->J.Ug i H x H->D (i+1) h'->(∀b o,b≠B->s.heap.get? b=some o->h'.get? b=some o)->Q (some u) { s with heap:=h',toks:=tk })->wpAny (model P w) X.A (pyNext (.ref B)) Q E s)
  (done:∀(X:Cx),X.prog=P->X.w=w->X.K=K->X.calm=true->∀(i:Nat) (pins:List (Addr × Obj)) (s:Shared) (σ:St) (H:Hp) (E:Value->Shared->Prop) (Q:Option Value->Shared->Prop),Inv X pins σ H s->D i s.heap->J.stop i H->
   (∀h',(∀b o,b≠B->s.heap.get? b=some o->h'.get? b=some o)->Q none { s with heap:=h' })->wpAny (model P w) X.A (pyNext (.ref B)) Q E s)
  (self:∀(A:Around) (i:Nat) (s:Shared) (Q:Value->Shared->Prop) (E:Value->Shared->Prop),D i s.heap->Q (.ref B) s->wpAny (model P w) A (pyIter (.ref B)) Q E s):Turn P w K tg J [B] B D where
 mem:=zr.mpr rfl
 obj:=λi h st b hb=>by
  obtain ⟨o,vs,e,_,d⟩:=obj i h st
  rw [zr.mp hb]
  exact ⟨o,e,λv z=>by rw [d] at z;cases z⟩
 keep:=λi h h' st k=>keep i h h' st (k B (zr.mpr rfl))
 item:=λX hP U hK Z i pins s σ H E I hf st Y=>item X hP U hK Z i pins s σ H E _ I st Y λu x h' tk r y O k=>by
  obtain ⟨o,vs,e,c,d⟩:=obj _ _ O
  exact ⟨u,rfl,ZF (s:={ s with heap:=h',toks:=tk }) e c d hn ⟨x,H,I.turned (hf B (zr.mpr rfl)) k,r,y,O,λb hb=>(hf b hb).1⟩⟩
 done:=λX hP U hK Z i pins s σ H E I hf st Y=>done X hP U hK Z i pins s σ H E _ I st Y λh' k=>⟨rfl,I.turned (t':=s.toks) (hf B (zr.mpr rfl)) k⟩
 self:=self
theorem HY {P:Program} {w:World} {K:PySem.W.Frag} {tg:Expr} (a O:Addr):Turn P w K tg (Itl K a) [O] O (λi h=>h.IsListIter O a i):=
 nu (n:="list_iterator") (by decide) (λi h st=>by obtain ⟨o,e,c,d⟩:=st;exact ⟨o,_,e,c,d⟩) (λi h h' st k=>st.at k)
  (λX hP Y hK hc i pins s σ H E Q I st Z q=>by
   subst hP Y hK
   obtain ⟨xs,x,z,U⟩:=Z
   obtain ⟨J,D,p,hz⟩:=I.list z
   obtain ⟨u,hu,ru⟩:=D.get U
   exact wpAny_pyNext_list_item st p.isList (x:=u) (by simpa using hu) λh' B sb=>q u x h' s.toks ru ⟨rfl,λys hy=>by rw [I.rW hy z];exact U⟩ B λb o hb e=>(sb.2 b hb).trans e)
  (λX hP Y hK hc i pins s σ H E Q I st Z q=>by
   subst hP Y hK
   obtain ⟨xs,z,U⟩:=Z
   obtain ⟨J,D,p,hz⟩:=I.list z
   have hl:=D.length
   exact wpAny_pyNext_list_end (I.ok.hd hc) st p.isList (by simp;omega) q)
  λ_ _ _ _ _ st h=>wpAny_pyIter_listiter st h
theorem rY {P:Program} {w:World} {K:PySem.W.Frag} {Z:Expr} (z:Addr) (lo d:Int) (n:Nat):Turn P w K Z (Zb lo d n) [z] z (λi h=>IsRangeIter h z (lo+(i:Nat) * d) ((n:Int) - (i:Nat)) d):=
 nu (n:="range_iterator") (by decide) (λi h st=>⟨_,_,st,rfl,rfl⟩) (λi h h' st k=>k _ st)
  (λX U D Y O i pins s σ H E Q I st J q=>by
   subst U D Y
   refine (Walks.range (prog:=X.prog) (w:=X.w) (I.ok.hd O) z lo d n).item i s _ _ J st λv h' tk hv B kk=>?_
   obtain ⟨t,rfl⟩:=hv
   exact q _ (.int (lo+i * d)) h' tk ⟨t,rfl⟩ ⟨rfl,rfl⟩ B λb o hb e=>kk b o (by simpa using hb) e)
  (λX U D Y O i pins s σ H E Q I st J q=>by
   subst U D Y
   exact wpAny_pyNext_range_end (I.ok.hd O) st (by have:n<=i:=J;omega) q)
  λ_ _ _ _ _ st h=>wpAny_pyIter_rangeiter st h
section
variable {X:Cx} {tg:Expr}
def Uh (K:PySem.W.Frag) (n:TE):TI:=λσ H R=>n σ H λx H1=>∃a,x=.ref a/\(∃xs,iV K H1 a xs)/\R (Itl K a) H1
theorem J0 {n:List (Addr × Obj)} {z:St} {H:Hp} {s:Shared} {o:Obj} {t:Nat} {B:Addr->Nat->Heap->Prop} {J:It} {R:It->Hp->Prop} (I:Inv X n z H s) (T:∀it,Turn X.prog X.w X.K tg J [it] it (B it)) (st:B s.heap.objs.size 0 (s.heap.push o)) (q:R J H) :
  PIE X n z tg R (.ref s.heap.objs.size) { s with heap:=s.heap.push o,toks:=t }:=
 ⟨_,[s.heap.objs.size],_,J,H,rfl,I.kept λb o e=>zu _ e,T _,st,λb D=>by rw [zr.mp D];exact I.VH (zx _) (I.hok.fresh (zx _)),q⟩
theorem Qy {l:Expr} {n:TE} (U:PE X l n):PI X tg l (Uh X.K n):=by
 intro pins s σ H R I h
 refine bu (U pins s σ H _ I h) λv Y B=>?_
 obtain ⟨x,H1,z,D,a,e,⟨xs,O⟩,q⟩:=B
 subst e
 cases D
 obtain ⟨J,Z,p,hz⟩:=z.list O
 exact wpAny_pyIter_list p.isList (J0 z (HY a) ⟨_,zz _ rfl,rfl,rfl⟩ q)
theorem Az {h:Heap} {z:Addr} {lo d:Int} {n:Nat} (e:IsRangeIter h z lo n d):IsRangeIter h z (lo+((0:Nat):Int) * d) ((n:Int) - ((0:Nat):Int)) d:=by simpa using e
theorem A_ {n:List (Addr × Obj)} {z:St} {H:Hp} {s:Shared} {R:It->Hp->Prop} {E:Value->Shared->Prop} {lo hi:Int} {t u v:Tok} {B:Nat} (I:Inv X n z H s) (h1:-(2 ^ 62)<=lo) (h2:lo<2 ^ 62) (h3:-(2 ^ 62)<=hi) (h4:hi<2 ^ 62)
  (q:R (Zb lo 1 (hi - lo).toNat) H):wpAny (model X.prog X.w) X.A (pyIter (.ref s.heap.objs.size)) (PIE X n z tg R) E { s with heap:=s.heap.push { cls:=.type "range",data:=.fields #[.int lo t,.int hi u,.int 1 v] },toks:=B }:=by
 have e2:Builtin.Range.rangeSize lo hi 1=((hi - lo).toNat:Int):=by rw [rangeSize_one];split<;>omega
 refine wpAny_pyIter_range (IsRange.new ..) (small_one h1 h2 h3 h4) ?_
 rw [e2]
 exact J0 (s:={ s with heap:=s.heap.push { cls:=.type "range",data:=.fields #[.int lo t,.int hi u,.int 1 v] },toks:=B }) (I.kept λb o e=>zu _ e) (λD=>rY D lo 1 _) (Az (zz _ rfl)) q
def ZG (n:TA):TI:=λσ H R=>n σ H λvs H1=>∃j:Int,vs=[.int j]/\-(2 ^ 62)<=j/\j<2 ^ 62/\R (Zb 0 1 j.toNat) H1
def ZJ (n:TA):TI:=λσ H R=>n σ H λvs H1=>∃i j:Int,vs=[.int i,.int j]/\(-(2 ^ 62)<=i/\i<2 ^ 62/\-(2 ^ 62)<=j/\j<2 ^ 62)/\R (Zb i 1 (j - i).toNat) H1
theorem H_ {a:Expr} {n:TA} {p pos:Pos} (O:Gl X "range") (J:X.mg "range"=none) (U:PA X [a] n) (D:starEach [a] X.env=[(false,eval a X.env)]:=by rfl):PI X tg (.Call (.Name "range" p) [a] [] pos) (ZG n):=by
 intro pins s σ H R I h
 refine Call_ (gM I O J boot_range (zW (bu (U pos pins s σ H _ I h) λZ s1 z=>?_) D rfl))
 obtain ⟨vs,H1,Y,B,q1⟩:=z
 obtain ⟨j,e,q1,q2,q⟩:=q1
 subst e
 cases B with
 | cons r rr=>
  cases rr
  obtain ⟨t,rfl⟩:=r
  exact call_range_1 (A_ Y (by omega) (by omega) q1 q2 (by simpa using q))
theorem Ia {a b:Expr} {z:TA} {p pos:Pos} (Z:Gl X "range") (Y:X.mg "range"=none) (ha:PA X [a,b] z) (U:starEach [a,b] X.env=[(false,eval a X.env),(false,eval b X.env)]:=by rfl) (n:starEach [b] X.env=[(false,eval b X.env)]:=by rfl) :
  PI X tg (.Call (.Name "range" p) [a,b] [] pos) (ZJ z):=by
 intro pins s σ H R I h
 refine Call_ (gM I Z Y boot_range (zW (bu (ha pos pins s σ H _ I h) λus s1 B=>?_) (by rw [U,n]) (by rw [n];rfl)))
 obtain ⟨vs,H1,I1,D,q1⟩:=B
 obtain ⟨i,j,e,⟨q1,q2,O,J⟩,q⟩:=q1
 subst e
 cases D with
 | cons r rr=>
  cases rr with
  | cons r' rr=>
   cases rr
   obtain ⟨t,rfl⟩:=r
   obtain ⟨t',rfl⟩:=r'
   exact call_range_2 (A_ I1 q1 q2 O J q)
def acQ (B:TI) (g:TG) (I:TS):TS:=λD σ H=>B σ H λJ H1=>∃W:Nat->Nat->St->Hp->Prop,(∃m,W 0 m σ H1)/\∀i m σ H,W i m σ H->
 (J.stop i H/\D.nx σ H)\/(J.go i H/\∃N:St->Hp->Prop,(∀σ' H',N σ' H'->∃z,z<m/\W (i+1) z σ' H')/\∀x H',J.Ug i H x H'->g x σ H' λn H2=>I { D with nx:=N,ct:=N,bk:=D.nx } n H2)
def rZ (n:List Addr) (h:Heap):List (Addr × Obj):=n.filterMap λb=>(h.get? b).map λo=>(b,o)
theorem lU {n:List Addr} {h:Heap} {b:Addr} {o:Obj} (z:b∈n) (e:h.get? b=some o):(b,o)∈rZ n h:=List.mem_filterMap.mpr ⟨b,z,by rw [e];rfl⟩
theorem Ib {h:Heap} {p:Addr × Obj} (n:p∈rZ fp h):p.1∈fp/\h.get? p.1=some p.2:=by
 obtain ⟨b,z,e⟩:=List.mem_filterMap.mp n
 cases q:h.get? b with
 | none=>rw [q] at e;cases e
 | some o=>
  rw [q] at e
  have B:(b,o)=p:=ya e
  subst B
  exact ⟨z,q⟩
theorem Inv.pinned {n:St} {s:Shared} (I:Inv X pins n H s) (hf:∀b∈fp,lz X pins H b) (O:∀b∈fp,∃o,s.heap.get? b=some o/\∀v,o.data≠.cell v):Inv X (pins++rZ fp s.heap) n H s:=
 I.qX λp J=>(zK.mp J).elim (λz=>I.pin p (yo _ z)) λz=>by
  obtain ⟨B,e⟩:=Ib z
  obtain ⟨f0,Y,U,_⟩:=hf p.1 B
  obtain ⟨o,D,d⟩:=O p.1 B
  rw [e] at D;cases D
  exact ⟨e,f0,Y,U,d⟩
theorem Inv.nF (I:Inv X (pins++pl) σ H s):Inv X pins σ H s:=I.qX λp n=>I.pin p (yo _ (yE _ n))
theorem J6 {U:Expr} {body:List Stmt} {wi:TI} {g:TG} {tb:TS} {pos:Pos} (hp:PassesOwn (model X.prog X.w) X.A X.env X.xe) (hc:X.calm=true) (hi:PI X tg U wi) (hg:PG X tg g) (Y:gw X body tb)
  (hs:∀x,foldedSetIterable U X.env x=pure x:=by intro _;rfl):PS X (.For tg U body [] pos) (acQ wi g tb):=by
 intro pins s σ H D I h
 refine wpAny_For (bu (hi pins s σ H _ I h) λv s1 h1=>bu h1 λitv s2 h2=>?_) hs
 obtain ⟨it,fp,tn,J,H2,e,I2,T,st2,f2,W,⟨m0,w0⟩,turn⟩:=h2
 subst e
 -- what stays true of the iterator's objects through the loop
 have O:∀{H':Hp},(∀b∈fp,H' b=none)->∀b∈fp,lz X pins H' b:=λhn b Y=>⟨hn b Y,(f2 b Y).2⟩
 refine codeAny_forLoop_any (λn s'=>∃i σ' H',Inv X pins σ' H' s'/\tn i s'.heap/\(∀b∈fp,H' b=none)/\W i n σ' H') ?_ m0 ⟨0,σ,H2,I2,st2,λb Y=>(f2 b Y).1,w0⟩
 rintro n s3 ⟨i,B,H3,I3,st3,fr3,w3⟩
 rcases turn i n B H3 w3 with ⟨stop,qn⟩|⟨go,N,hN,step⟩
 ·refine xg hp (bu (T.done X rfl rfl rfl hc i pins s3 B H3 X.xe I3 (O fr3) st3 stop) λr s4 zq=>?_)
  obtain ⟨hr,I4⟩:=zq
  subst hr
  exact xD ⟨B,H3,I4,qn⟩
 ·refine xg hp (bu (T.item X rfl rfl rfl hc i pins s3 B H3 X.xe I3 (O fr3) st3 go) λr s4 zq=>?_)
  obtain ⟨u,hr,h4⟩:=zq
  subst hr
  refine xg hp (bu h4 λ_ s5 zq=>?_)
  obtain ⟨x,H5,I5,r5,y5,st5,fr5⟩:=zq
  have I5':=I5.pinned (O fr5) (T.obj _ _ st5)
  refine xg hp (bu (hg _ s5 B H5 x u _ I5' r5 (step x H5 y5)) λ_ s6 zq=>?_)
  obtain ⟨σ6,H6,I6,q6⟩:=zq
  refine xg hp (bu (Y _ s6 σ6 H6 _ I6 q6) λf s7 q7=>?_)
  have Z:∀{z:St} {H7:Hp},Inv X (pins++rZ fp s5.heap) z H7 s7->N z H7->∃m,m<n/\∃i σ' H',Inv X pins σ' H' s7/\tn i s7.heap/\(∀b∈fp,H' b=none)/\W i m σ' H':=λ{z H7} I7 n7=>by
   obtain ⟨m',hm,w7⟩:=hN z H7 n7
   refine ⟨m',hm,i+1,z,H7,I7.nF,T.keep _ _ _ st5 λb Y o e=>(I7.pin (b,o) (yo _ (yo _ (lU Y e)))).1,λb Y=>?_,w7⟩
   obtain ⟨o,e,d⟩:=T.obj _ _ st5 b Y
   exact (I7.pin (b,o) (yo _ (yo _ (lU Y e)))).2.1
  cases f with
  | next=>obtain ⟨z,H7,I7,n7⟩:=q7;exact Z I7 n7
  | cont=>obtain ⟨z,H7,I7,n7⟩:=q7;exact Z I7 n7
  | brk=>obtain ⟨z,H7,I7,q7⟩:=q7;exact ⟨z,H7,I7.nF,q7⟩
  | ret v=>obtain ⟨x7,z,H7,I7,r7,q7⟩:=q7;exact ⟨x7,z,H7,I7.nF,r7,q7⟩
end
abbrev R2:=V->V->Hp->VK->Prop
def g8 (X:Cx) (f:Value->Value->Sem Value) (r:R2):Prop:=
 ∀(pins:List (Addr × Obj)) (s:Shared) (σ:St) (H:Hp) (x y:V) (v u:Value) (Q:VK),Inv X pins σ H s->RelV x v->RelV y u->r x y H Q->
  wpAny (model X.prog X.w) X.A (f v u) (EP X pins σ Q) X.xe s
def UnR (X:Cx) (f:Value->Sem Value) (r:V->Hp->VK->Prop):Prop:=
 ∀(pins:List (Addr × Obj)) (s:Shared) (σ:St) (H:Hp) (x:V) (v:Value) (Q:VK),Inv X pins σ H s->RelV x v->r x H Q->
  wpAny (model X.prog X.w) X.A (f v) (EP X pins σ Q) X.xe s
def g_ (X:Cx) (f:Value) (r:List V->Hp->VK->Prop):Prop:=
 ∀(pins:List (Addr × Obj)) (s:Shared) (σ:St) (H:Hp) (xs:List V) (us:List Value) (Q:VK),Inv X pins σ H s->Vals xs us->r xs H Q->
  wpAny (model X.prog X.w) X.A (call f us) (EP X pins σ Q) X.xe s
def ZK (r:R2) (z n:TE):TE:=λσ H Q=>z σ H λx H1=>n σ H1 λy H2=>r x y H2 Q
def tUn (r:V->Hp->VK->Prop) (n:TE):TE:=λσ H Q=>n σ H λx H1=>r x H1 Q
def rI (C:Int->Int->Prop) (g:Int->Int->V):R2:=λx y H Q=>∃i j,x=.int i/\y=.int j/\C i j/\Q (g i j) H
def Dq (g:Int->Int->V):R2:=λx y H Q=>∃i j,x=.int i/\y=.int j/\Q (g i j) H
def rU (g:Int->V):V->Hp->VK->Prop:=λx H Q=>∃i,x=.int i/\Q (g i) H
section
variable {X:Cx} {a b c:Expr} {ta tb tc:TE} {pos:Pos}
theorem Qz (ha:PE X a ta) (hb:PE X b tb) {n:List (Addr × Obj)} {s:Shared} {z:St} {H:Hp} {R:V->V->Hp->Prop} (I:Inv X n z H s)
  (h:ta z H λx H1=>tb z H1 λy H2=>R x y H2) {Q:Value->Shared->Prop} {f:Value->Value->Sem Value}
  (hf:∀v u J x y H2,Inv X n z H2 J->RelV x v->RelV y u->R x y H2->wpAny (model X.prog X.w) X.A (f v u) Q X.xe J) :
  wpAny (model X.prog X.w) X.A (eval a X.env) (λv D=>wpAny (model X.prog X.w) X.A (eval b X.env) (λu B=>wpAny (model X.prog X.w) X.A (f v u) Q X.xe B) X.xe D) X.xe s:=by
 refine bu (ha n s z H _ I h) λv U O=>?_
 obtain ⟨x,H1,I1,Z,q1⟩:=O
 refine bu (hb n U z H1 _ I1 q1) λu J O=>?_
 obtain ⟨y,H2,I2,Y,q2⟩:=O
 exact hf v u J x y H2 I2 Z Y q2
theorem su {n:Operator} {r:R2} (J:g8 X (binaryOp n) r) (U:PE X a ta) (O:PE X b tb):PE X (.BinOp a n b pos) (ZK r ta tb):=by
 intro pins s σ H Q I h
 exact wpAny_BinOp (Qz U O I h λv u z x y H2 Y D B q=>J pins z σ H2 x y v u Q Y D B q)
theorem ZL {n:UnaryOp} {r:V->Hp->VK->Prop} (J:UnR X (unaryOp n) r) (O:PE X a ta):PE X (.UnaryOp n a pos) (tUn r ta):=by
 intro pins s σ H Q I h
 exact UnaryOp_ (bu (O pins s σ H _ I h) λv B z=>by obtain ⟨x,H1,U,D,q1⟩:=z;exact J pins B σ H1 x v Q U D q1)
theorem Zc {f:Value->Value->Sem Value} {C:Int->Int->Prop} {g:Int->Int->Int}
  (n:∀(i j:Int) (t u:Tok) (s:Shared) (Q:Value->Shared->Prop) (E:Value->Shared->Prop),C i j->Q (.int (g i j) s.toks) { s with toks:=s.toks+1 }->wpAny (model X.prog X.w) X.A (f (.int i t) (.int j u)) Q E s) :
  g8 X f (rI C λi j=>.int (g i j)):=by
 intro pins s σ H x y v u Q I D B h
 obtain ⟨i,j,rfl,rfl,J,q⟩:=h
 obtain ⟨t,rfl⟩:=D
 obtain ⟨z,rfl⟩:=B
 exact n i j t z s _ _ J ⟨.int (g i j),H,I.tok _,⟨_,rfl⟩,q⟩
theorem J7 {f:Value->Value->Sem Value} {g:Int->Int->Int}
  (n:∀(i j:Int) (t u:Tok) (s:Shared) (Q:Value->Shared->Prop) (E:Value->Shared->Prop),Q (.int (g i j) s.toks) { s with toks:=s.toks+1 }->wpAny (model X.prog X.w) X.A (f (.int i t) (.int j u)) Q E s) :
  g8 X f (Dq λi j=>.int (g i j)):=by
 intro pins s σ H x y v u Q I D B h
 obtain ⟨i,j,rfl,rfl,q⟩:=h
 obtain ⟨t,rfl⟩:=D
 obtain ⟨z,rfl⟩:=B
 exact n i j t z s _ _ ⟨.int (g i j),H,I.tok _,⟨_,rfl⟩,q⟩
theorem QB {f:Value->Value->Sem Value} {g:Int->Int->Bool}
  (n:∀(i j:Int) (t u:Tok) (s:Shared) (Q:Value->Shared->Prop) (E:Value->Shared->Prop),Q (.bool (g i j)) s->wpAny (model X.prog X.w) X.A (f (.int i t) (.int j u)) Q E s) :
  g8 X f (Dq λi j=>.bl (g i j)):=by
 intro pins s σ H x y v u Q I D B h
 obtain ⟨i,j,rfl,rfl,q⟩:=h
 obtain ⟨t,rfl⟩:=D
 obtain ⟨z,rfl⟩:=B
 exact n i j t z s _ _ ⟨.bl (g i j),H,I,rfl,q⟩
def QC (i j:Int):Prop:=0<j/\j<1073741824
def QD (i j:Int):Prop:=0<=j/\j<=1000000/\i.natAbs<2 ^ 64
def Dr (i j:Int):Prop:=(-(2 ^ 64)<i/\i<2 ^ 64)\/(-(2 ^ 64)<j/\j<2 ^ 64)
theorem Dr.ok {i j:Int} (h:Dr i j):IntMulOk i j:=by
 rcases h with ⟨h1,h2⟩|⟨h1,h2⟩
 ·exact .of_left (intBits_le_64 h1 h2)
 ·exact .of_right (intBits_le_64 h1 h2)
theorem VL:g8 X (binaryOp .Add) (Dq λi j=>.int (i+j)):=J7 λ_ _ _ _ _ _ _ q=>add_int q
theorem VM:g8 X (binaryOp .Sub) (Dq λi j=>.int (i - j)):=J7 λ_ _ _ _ _ _ _ q=>sub_int q
theorem VN:g8 X (binaryOp .Mult) (rI Dr λi j=>.int (i * j)):=Zc λ_ _ _ _ _ _ _ n q=>mul_int q n.ok
theorem ab9:g8 X (binaryOp .FloorDiv) (rI QC λi j=>.int (i / j)):=Zc λi j _ _ _ _ _ n q=>by
 have h1:(0:Int)<j:=n.1
 have h2:j<1073741824:=n.2
 exact floordiv_int (by omega) (by rw [Int.fdiv_eq_ediv_of_nonneg i (by omega)];exact q) (.inl (PyProof.noPylong_small (by omega)))
theorem VP:g8 X (binaryOp .Mod) (rI (λ_ j=>0<j) λi j=>.int (i % j)):=Zc λi j _ _ _ _ _ n q=>by
 have h1:(0:Int)<j:=n
 exact mod_int' (by omega) (by rw [Int.fmod_eq_emod_of_nonneg i (by omega)];exact q)
theorem J8:g8 X (binaryOp .Pow) (rI QD λi j=>.int (i ^ j.toNat)):=Zc λ_ _ _ _ _ _ _ n q=>pow_int_small n.1 n.2.1 n.2.2 q
theorem VR:g8 X (binaryOp .BitAnd) (Dq λi j=>.int (Builtin.bitAnd i j)):=J7 λ_ _ _ _ _ _ _ q=>and_int q
theorem QF:g8 X (inplaceOp .Add) (Dq λi j=>.int (i+j)):=J7 λ_ _ _ _ _ _ _ q=>iadd_int q
theorem QH:g8 X (inplaceOp .Sub) (Dq λi j=>.int (i - j)):=J7 λ_ _ _ _ _ _ _ q=>isub_int q
theorem QJ:g8 X (inplaceOp .Mult) (rI Dr λi j=>.int (i * j)):=Zc λ_ _ _ _ _ _ _ n q=>imul_int q n.ok
theorem unI {f:Value->Sem Value} {g:Int->Int}
  (n:∀(i:Int) (t:Tok) (s:Shared) (Q:Value->Shared->Prop) (E:Value->Shared->Prop),Q (.int (g i) s.toks) { s with toks:=s.toks+1 }->wpAny (model X.prog X.w) X.A (f (.int i t)) Q E s) :
  UnR X f (rU λi=>.int (g i)):=by
 intro pins s σ H x v Q I z h
 obtain ⟨i,rfl,q⟩:=h
 obtain ⟨t,rfl⟩:=z
 exact n i t s _ _ ⟨.int (g i),H,I.tok _,⟨_,rfl⟩,q⟩
theorem V0:UnR X (unaryOp .USub) (rU λi=>.int (-i)):=unI λ_ _ _ _ _ q=>neg_int q
end
inductive J9:V->V->Bool->Prop
 | int (i j:Int):J9 (.int i) (.int j) (decide (i=j))
 | bl (i j:Bool):J9 (.bl i) (.bl j) (decide (i=j))
 | str (i j:Str):J9 (.str i) (.str j) (decide (i=j))
def rEq (f:Bool->Bool):R2:=λx y H Q=>∃k,J9 x y k/\Q (.bl (f k)) H
section
variable {X:Cx} {a b c:Expr} {ta tb tc:TE} {pos:Pos}
theorem Ui:g8 X (compareOp .Eq) (rEq λk=>k):=by
 intro pins s σ H x y v u Q I z n h
 obtain ⟨k,h,q⟩:=h
 cases h with
 | int i j=>obtain ⟨t,rfl⟩:=z;obtain ⟨B,rfl⟩:=n;exact eq_int ⟨.bl _,H,I,rfl,q⟩
 | bl i j=>cases z;cases n;exact eq_bool ⟨.bl _,H,I,rfl,q⟩
 | str i j=>obtain ⟨t,rfl⟩:=z;obtain ⟨B,rfl⟩:=n;exact eq_str ⟨.bl _,H,I,rfl,q⟩
theorem Uj:g8 X (compareOp .NotEq) (rEq λk=>!k):=by
 intro pins s σ H x y v u Q I z n h
 obtain ⟨k,h,q⟩:=h
 cases h with
 | int i j=>obtain ⟨t,rfl⟩:=z;obtain ⟨B,rfl⟩:=n;exact ne_int ⟨.bl _,H,I,rfl,q⟩
 | bl i j=>cases z;cases n;exact ne_bool ⟨.bl _,H,I,rfl,q⟩
 | str i j=>obtain ⟨t,rfl⟩:=z;obtain ⟨B,rfl⟩:=n;exact ne_str ⟨.bl _,H,I,rfl,q⟩
theorem ZM:g8 X (compareOp .Lt) (Dq λi j=>.bl (decide (i<j))):=QB λ_ _ _ _ _ _ _ q=>lt_int q
theorem jK:g8 X (compareOp .LtE) (Dq λi j=>.bl (decide (i<=j))):=QB λ_ _ _ _ _ _ _ q=>le_int q
theorem ZP:g8 X (compareOp .Gt) (Dq λi j=>.bl (decide (j<i))):=QB λ_ _ _ _ _ _ _ q=>gt_int q
theorem ZQ:g8 X (compareOp .GtE) (Dq λi j=>.bl (decide (j<=i))):=QB λ_ _ _ _ _ _ _ q=>ge_int q
theorem Ie:g8 X (compareOp .In) (λx y H Q=>∃i j,x=.str i/\y=.str j/\Q (.bl (!(Builtin.Str.occurrences j i 0 j.length 1).isEmpty)) H):=by
 intro pins s σ H x y v u Q I z n h
 obtain ⟨i,j,rfl,rfl,q⟩:=h
 obtain ⟨t,rfl⟩:=z
 obtain ⟨B,rfl⟩:=n
 exact in_str ⟨.bl _,H,I,rfl,q⟩
theorem gO (b:Expr) {n:CmpOp} (h:n≠.In:=by decide) (h2:n≠.NotIn:=by decide):behindInMarks n b=false:=by
 have e1:(n == CmpOp.In)=false:=by cases n<;>first|rfl|exact absurd rfl h
 have e2:(n == CmpOp.NotIn)=false:=by cases n<;>first|rfl|exact absurd rfl h2
 cases b<;>simp [behindInMarks,e1,e2]
theorem qY {n:CmpOp} {r:R2} (J:g8 X (compareOp n) r) (Y:PE X a ta) (U:PE X b tb) (O:behindInMarks n b=false):PE X (.Compare a [n] [b] pos) (ZK r ta tb):=by
 intro pins s σ H Q I h
 exact wpAny_Compare1 (Qz Y U I h λv u z x y H2 Z D B q=>J pins z σ H2 x y v u Q Z D B q) O
def Uk (t:TE):TT:=λσ H Q=>t σ H λx H'=>∃k,x=.bl k/\Q k H'
theorem gD {n:CmpOp} {r:R2} (Z:g8 X (compareOp n) r) (ha:PE X a ta) (hb:PE X b tb) (hm:behindInMarks n b=false):PT X (.Compare a [n] [b] pos) (Uk (ZK r ta tb)):=by
 intro pins s σ H Q I h
 refine wpAny_isTrue_Compare1 (bu (ha pins s σ H _ I h) λv D ⟨x,H1,I1,U,q1⟩=>bu (hb pins D σ H1 _ I1 q1) λu B ⟨y,H2,I2,O,q2⟩=>
  bu (Z pins B σ H2 x y v u _ I2 U O q2) λc s3 ⟨z,H3,I3,J,k,e,Y⟩=>?_) hm
 subst e
 cases J
 exact yj ⟨H3,I3,Y⟩
def V1 (r O:R2) (J I D:TE):TE:=λσ H Q=>J σ H λx H1=>I σ H1 λy H2=>r x y H2 λz n=>∃k,z=.bl k /\
 (if k=true then D σ n λB U=>O y B U Q else Q (.bl false) n)
theorem J_ {B n:CmpOp} {r O:R2} (ho:g8 X (compareOp B) r) (D:g8 X (compareOp n) O) (ha:PE X a ta) (hb:PE X b tb) (hc:PE X c tc)
  (hm:lastMarks [B,n] [b,c]=false:=by with_unfolding_all rfl):PT X (.Compare a [B,n] [b,c] pos) (Uk (V1 r O ta tb tc)):=by
 intro pins s σ H Q I h
 refine isTrue_chain (bu (ha pins s σ H _ I h) λv s1 ⟨x,H1,I1,r1,q1⟩=>test_link (bu (hb pins s1 σ H1 _ I1 q1) λu s2 ⟨y,H2,I2,J,q2⟩=>
  bu (ho pins s2 σ H2 x y v u _ I2 r1 J q2) λd s3 ⟨z,Z,Y,r3,k,e,U⟩=>?_)) hm
 subst e
 cases r3
 refine yj ?_
 cases k with
 | false=>
  obtain ⟨k',e',q'⟩:=U
  cases e'
  exact ite_ff ⟨Z,Y,q'⟩
 | true=>
  refine ite_tt (test_last (bu (hc pins s3 σ Z _ Y U) λw' s4 ⟨z',H4,I4,r4,q4⟩=>bu (D pins s4 σ H4 y z' u w' _ I4 J r4 q4) λd' s5 zq=>?_))
  obtain ⟨z2,H5,I5,r5,k2,e2,q5⟩:=zq
  subst e2
  cases r5
  exact yj ⟨H5,I5,q5⟩
theorem lV:(sizeLine:Nat)<2 ^ 63:=by rw [xn];decide
theorem Ds:g8 X (binaryOp .Add) (λx y H Q=>∃i j,x=.str i/\y=.str j/\i.length+j.length<=sizeLine/\Q (.str (i++j)) H):=by
 intro pins s σ H x y v u Q I B z h
 obtain ⟨i,j,rfl,rfl,D,q⟩:=h
 obtain ⟨t,rfl⟩:=B
 obtain ⟨n,rfl⟩:=z
 exact add_str (λn tk=>⟨.str (i++j),H,I.tok _,⟨_,rfl⟩,q⟩) D
theorem vals1 (r:Vals [x] us):∃u,us=[u]/\RelV x u:=by
 cases r with
 | cons r1 r2=>cases r2;exact ⟨_,rfl,r1⟩
theorem vals2 (r:Vals [x,y] us):∃u w',us=[u,w']/\RelV x u/\RelV y w':=by
 cases r with
 | cons r1 r2=>
  cases r2 with
  | cons r3 r4=>cases r4;exact ⟨_,_,rfl,r1,r3⟩
theorem Ig (z:X.calm=true):g_ X (.builtin "min") (λxs H Q=>∃i j,xs=[.int i,.int j]/\Q (.int (if j<i then j else i)) H):=by
 intro pins s σ H xs D Q I r h
 obtain ⟨i,j,rfl,q⟩:=h
 obtain ⟨u,B,rfl,⟨t,rfl⟩,⟨J,rfl⟩⟩:=vals2 r
 refine min_two_ints (I.ok.hd z) λh' tk k=>⟨_,H,I.kept k,?_,q⟩
 by_cases n:j<i
 ·rw [zo n,zo n];exact ⟨_,rfl⟩
 ·rw [zh n,zh n];exact ⟨_,rfl⟩
theorem Ih:g_ X (.type "int") (λxs H Q=>(∃i,xs=[.int i]/\Q (.int i) H)\/∃k,xs=[.bl k]/\Q (.int (if k then 1 else 0)) H):=by
 intro pins s σ H xs z Q I r h
 rcases h with ⟨i,rfl,q⟩|⟨k,rfl,q⟩
 ·obtain ⟨u,rfl,t,rfl⟩:=vals1 r
  exact call_int_int ⟨.int i,H,I,⟨_,rfl⟩,q⟩
 ·obtain ⟨u,rfl,n⟩:=vals1 r
  cases n
  exact call_int_bool ⟨.int (if k then 1 else 0),H,I.tok _,⟨_,rfl⟩,q⟩
theorem vV:g_ X (.type "str") (λxs H Q=>∃i,xs=[.int i]/\i.natAbs.log2<1920/\Q (.str (toString i)) H):=by
 intro pins s σ H xs z Q I r h
 obtain ⟨i,rfl,n,q⟩:=h
 obtain ⟨u,rfl,t,rfl⟩:=vals1 r
 exact PySem.P.str_of_int n ⟨.str _,H,I.tok _,⟨_,rfl⟩,q⟩
theorem Ba:g_ X (.builtin "divmod") (λxs H Q=>∃i j,xs=[.int i,.int j]/\QC i j/\∀p,H p=none->Q (.ref p) (upd H p (.tup [.int (i / j),.int (i % j)]))):=by
 intro pins s σ H xs B Q I r h
 obtain ⟨i,j,rfl,⟨h1,h2⟩,q⟩:=h
 obtain ⟨u,z,rfl,⟨t,rfl⟩,⟨D,rfl⟩⟩:=vals2 r
 refine divmod_int (by omega) ?_ (.inl (PyProof.noPylong_small (by omega)))
 rw [Int.fdiv_eq_ediv_of_nonneg i (by omega),Int.fmod_eq_emod_of_nonneg i (by omega)]
 have n:H s.heap.objs.size=none:=I.hok.fresh (zx _)
 refine ⟨.ref s.heap.objs.size,_,?_,rfl,q _ n⟩
 refine I.laid (λb o e=>zu _ e) (zx _) ⟨by simp only [zG,xB];rw [xn];decide,[.int (i / j) s.toks,.int (i % j) (s.toks+1)],.cons ⟨_,rfl⟩ (.cons ⟨_,rfl⟩ .nil),?_⟩
 exact ⟨_,zz s.heap rfl,rfl,0,rfl⟩
end
structure Dt (h:Heap) (x dx C:Addr) (mA:Str->Option Value):Prop where
 obj:h.get? x=some (PySem.W.instObj C dx)
 ns:h.Ns1 dx mA
 ne:dx≠x
theorem Ii {h:Heap} (n:h.Ns1 dx mA):∃D,h.get? dx=some D/\∀name,PySem.W.lookIn name D=some (mA name):=by
 obtain ⟨o,es,Z,J,hd,U,_,O⟩:=n
 refine ⟨o,J,λname=>?_⟩
 have e:=O name
 unfold nsFind findBy at e
 rw [<-Array.find?_toList] at e
 unfold PySem.W.lookIn
 rw [hd]
 dsimp only
 split
 ·rename_i y q
  rw [q] at e
  exact yd some e
 ·rename_i q
  rw [q] at e
  have a:es.toList.any (·.refKey)=false:=by
   rw [List.any_eq_false]
   intro y I
   obtain ⟨z,t,B⟩:=U y (Array.mem_toList_iff.mp I)
   simp [DictEntry.refKey,B]
  have Y:¬es.toList.any (·.refKey)=true:=by rw [a];exact y9
  rw [zh Y]
  exact yd some e
theorem Dt.look (I:Dt h x dx C mA):∃n,PySem.W.InstAt h x (PySem.W.instObj C dx) C (some n)/\∀name,PySem.W.lookIn name n=some (mA name):=
 let ⟨n,ho,hl⟩:=Ii I.ns
 ⟨n,⟨I.obj,rfl,rfl,ho⟩,hl⟩
section
variable {prog:Program} {w:World} {A:Around} {E:Value->Shared->Prop} {s:Shared} {K:PySem.W.Frag} {x dx C f:Addr} {mA:Str->Option Value} {name:Str} {v:Value}
theorem get_map (X:K.In s.heap) (I:Dt s.heap x dx C mA) (O:PySem.W.plainGet K C name=true) (D:PySem.W.hasDictIn K C=true)
  (U:PySem.W.findIn K (.ref C) name=some none) (z:mA name=some v) (n:PySem.W.handedIn v=true) (h:Q v { s with toks:=s.toks+1 }) :
  wpAny (model prog w) A (getAttr (.ref x) name expr) Q E s:=by
 obtain ⟨Y,J,B⟩:=I.look
 exact PySem.W.get_value X J (PySem.W.plainGet_of O).1 (PySem.W.findObj_own D U rfl (by rw [B,z])) n h
theorem Ka (X:K.In s.heap) (I:Dt s.heap x dx C mA) (n:PySem.W.plainGet K C name=true)
  (hf:PySem.W.findIn K (.ref C) name=some (some (.ref f))) (D:PySem.W.isFn K (.ref f)=true) (B:mA name=none) (h:Q (.ref f,[.ref x]) s) :
  wpAny (model prog w) A (getMethod (.ref x) name pl) Q E s:=by
 obtain ⟨z,J,O⟩:=I.look
 exact PySem.W.method_fn X J (PySem.W.plainGet_of n).1 (PySem.W.plainGet_of n).2 hf (beq_iff_eq.mp D) (by show (PySem.W.lookIn name z).map (·.isSome)=some false;rw [O,B];rfl) h
theorem QK {ns:List Str} (X:K.In s.heap) (I:Dt s.heap x dx C mA)
  (hs:PySem.W.findIn K (.ref C) "__setattr__"=some (some (.builtin "object.__setattr__"))) (hp:PySem.W.plainOver K C=true) (Z:PySem.W.takerIn K C name=some none) (hh:PySem.W.hasDictIn K C=true)
  (Y:PySem.Within mA ns) (hsz:ns.length<=sizeLine)
  (h:∀h',Dt h' x dx C (λy=>if y=name then some v else mA y)->Heap.SameBut dx s.heap h'->Q () { s with heap:=h',toks:=s.toks+2 }) :
  wpAny (model prog w) A (setAttr (.ref x) name v) Q E s:=by
 obtain ⟨od,J,hl⟩:=I.look
 refine PySem.W.set_plain X J hs (PySem.W.osa_open (s:={ s with toks:=s.toks+1 }) (r:=none) X J hp Z λb=>?_)
 obtain ⟨cd,hc,hd'⟩:=PySem.W.any_some hh
 have U:s.heap.get? x=some ⟨.ref C,some dx,.plain,#[]⟩:=I.obj
 refine zd (zB (zd (zd (wpAny_loadPart U (zd (PySem.W.Looks.here (s:={ s with toks:=s.toks+1 }) (PySem.W.looks_clsIn X hc) ?_))))))
 rw [hd']
 refine zB (a:=some dx) (zd (zB (zd ?_)))
 refine wpAny_nsSet1 (s:={ s with toks:=s.toks+1 }) I.ns λh' z n=>?_
 obtain ⟨oD,esD,epD,B,D,O⟩:=z.count (PySem.Within.cons name v Y)
 refine zd (wpAny_lookBehind B (by rw [D];exact pastItsLine_dict (zY O (by rw [zG];omega))) ?_)
 exact zB (h _ ⟨(n.2 _ (Ne.symm I.ne)).trans I.obj,z,I.ne⟩ n)
theorem Kc (X:K.In s.heap) (n:PySem.W.makesIn K C=true)
  (hi:PySem.W.findIn K (.ref C) "__init__"=some (some (.ref f))) (hf:PySem.W.typeIn K (.ref f)=some (.type "function"))
  (h:codeAny (model prog w) (A.under (.builtin "type.__call__" ⟨.ref C::vs,kw⟩)) (.call (.ref f) ⟨.ref (s.heap.objs.size+1)::vs,kw⟩) (PySem.W.InitBack (s.heap.objs.size+1) R)
   { s with heap:=(s.heap.push PySem.W.emptyDict).push (PySem.W.instObj C s.heap.objs.size) }) :
  codeAny (model prog w) A (.call (.ref C) ⟨vs,kw⟩) R s:=by
 obtain ⟨z,g,d,t,os⟩:=s
 exact PySem.W.make_core (PySem.W.makes_of X n) (PySem.W.looks_findIn X hi) (λself=>PySem.W.bind_fn X self hf) (.inl rfl) h
end
def iW (f:Str) (v:V):List (Str × V)->List (Str × V)
 | []=>[(f,v)]
 | (g,x)::r=>if g=f then (g,v)::r else (g,x)::iW f v r
theorem qj (f g:Str) (v:V):∀fs:List (Str × V),(iW f v fs).lookup g=if g=f then some v else fs.lookup g
 | []=>by
  show List.lookup g [(f,v)]=_
  by_cases h:g=f
  ·have n:(g == f)=true:=beq_iff_eq.mpr h
   simp only [List.lookup,n,zo h]
  ·have n:(g == f)=false:=ym.mpr h
   simp only [List.lookup,n,zh h]
 | (k,x)::r=>by
  have B:=qj f g v r
  rw [show iW f v ((k,x)::r)=(if k=f then (k,v)::r else (k,x)::iW f v r) from rfl]
  by_cases z:k=f
  ·rw [zo z]
   by_cases h:g=k
   ·have n:(g == k)=true:=beq_iff_eq.mpr h
    simp only [List.lookup,n,zo (h.trans z)]
   ·have n:(g == k)=false:=ym.mpr h
    simp only [List.lookup,n,zh (λe:g=f=>h (e.trans z.symm))]
  ·rw [zh z]
   by_cases h:g=k
   ·have n:(g == k)=true:=beq_iff_eq.mpr h
    simp only [List.lookup,n,zh (λe:g=f=>z (h.symm.trans e))]
   ·have n:(g == k)=false:=ym.mpr h
    simp only [List.lookup,n]
    exact B
theorem o7 (f:Str) (v:V):∀fs:List (Str × V),f∈(iW f v fs).map (·.1)/\∀g,g∈fs.map (·.1)->g∈(iW f v fs).map (·.1)
 | []=>⟨by simp [iW],λg h=>by simp at h⟩
 | (k,x)::r=>by
  obtain ⟨B,z⟩:=o7 f v r
  rw [show iW f v ((k,x)::r)=(if k=f then (k,v)::r else (k,x)::iW f v r) from rfl]
  by_cases n:k=f
  ·rw [zo n]
   subst n
   exact ⟨by simp,λg h=>by simpa using h⟩
  ·rw [zh n]
   refine ⟨?_,λg h=>?_⟩
   ·rw [yb]
    exact zn _ B
   ·rw [yb] at h ⊢
    rcases zm.mp h with e|e
    ·exact zm.mpr (.inl e)
    ·exact zn _ (z g e)
theorem ql (f:Str) (v:V):∀fs:List (Str × V),(iW f v fs).length<=fs.length+1
 | []=>by simp [iW]
 | (k,x)::r=>by
  have z:=ql f v r
  rw [show iW f v ((k,x)::r)=(if k=f then (k,v)::r else (k,x)::iW f v r) from rfl]
  by_cases n:k=f
  ·rw [zo n,zG,zG];omega
  ·rw [zh n,zG,zG];omega
theorem qJ.some_of (r:qJ (some v) o):∃u,o=some u/\RelV v u:=by
 cases o with
 | none=>exact (show False from r).elim
 | some u=>exact ⟨u,rfl,r⟩
theorem qJ.none_of (r:qJ none o):o=none:=by
 cases o with
 | none=>rfl
 | some u=>exact (show False from r).elim
theorem Ij (r:RelV v u):PySem.W.handedIn u=true:=by
 cases v with
 | non=>cases (show u=Value.none from r);rfl
 | bl b=>cases (show u=Value.bool b from r);rfl
 | int i=>obtain ⟨t,e⟩:=(show ∃t,u=Value.int i t from r);cases e;rfl
 | str x=>obtain ⟨t,e⟩:=(show ∃t,u=Value.str x t from r);cases e;rfl
 | ref a=>cases (show u=Value.ref a from r);rfl
 | ty n=>cases (show u=Value.type n from r);rfl
section
variable {P:Program} {w:World} {H H':Hp} {h h':Heap} {a C dx:Addr} {fs fs':List (Str × V)}
theorem qZ (hok:jG P w H h) (e:H a=some (.ins C dx fs)):∃mA,Dt h a dx C mA/\(∀f,qJ (fs.lookup f) (mA f))/\PySem.Within mA (fs.map (·.1))/\fs.length<=1000/\H dx=some (.own a):=by
 obtain ⟨d,z,ne,B,mA,n,r,q⟩:=(show bK P w H h a (.ins C dx fs) from hok a _ e)
 exact ⟨mA,⟨B,n,ne⟩,r,q,z,d⟩
end
structure vW (K:PySem.W.Frag) (C:Addr):Prop where
 pg:PySem.W.plainGet K C Str.empty=true
 hd:PySem.W.hasDictIn K C=true
 po:PySem.W.plainOver K C=true
 sa:PySem.W.findIn K (.ref C) "__setattr__"=some (some (.builtin "object.__setattr__"))
theorem vW.get {K:PySem.W.Frag} {C:Addr} (c:vW K C) (f:Str):PySem.W.plainGet K C f=true:=c.pg
def iC (K:PySem.W.Frag) (C:Addr) (f:Str):Prop:=PySem.W.findIn K (.ref C) f=some none
theorem iC.taker {K:PySem.W.Frag} {C:Addr} {f:Str} (n:iC K C f):PySem.W.takerIn K C f=some none:=by
 unfold PySem.W.takerIn
 rw [show PySem.W.findIn K (.ref C) f=some none from n]
 rfl
structure Meth (K:PySem.W.Frag) (C:Addr) (m:Str) (f:Addr):Prop where
 at_:PySem.W.findIn K (.ref C) m=some (some (.ref f))
 fn:PySem.W.isFn K (.ref f)=true
 kp:PySem.W.keepIn K (.ref f)=true
section
variable {X:Cx} {pins:List (Addr × Obj)} {σ:St} {H:Hp} {s:Shared} {a C dx:Addr} {fs:List (Str × V)} {f:Str} {v:V} {A:Around} {E:Value->Shared->Prop}
theorem Du {b:Bool} {Q:Value->Shared->Prop} (I:Inv X pins σ H s) (e:H a=some (.ins C dx fs)) (c:vW X.K C) (n:iC X.K C f) (l:fs.lookup f=some v)
  (h:∀u s',Inv X pins σ H s'->RelV v u->Q u s'):wpAny (model X.prog X.w) A (getAttr (.ref a) f b) Q E s:=by
 obtain ⟨mA,O,r,_,_,_⟩:=qZ I.hok e
 obtain ⟨u,B,z⟩:=qJ.some_of (v:=v) (o:=mA f) (by rw [<-l];exact r f)
 exact get_map I.rQ O (c.get f) c.hd n B (Ij z) (h u _ (I.tok _) z)
theorem lW {m:Str} (I:Inv X pins σ H s) (e:H a=some (.ins C dx fs)) (c:vW X.K C) (k:Meth X.K C m g) (l:fs.lookup m=none)
  (h:Q (.ref g,[.ref a]) s):wpAny (model X.prog X.w) A (getMethod (.ref a) m pl) Q E s:=by
 obtain ⟨mA,O,r,_,_,_⟩:=qZ I.hok e
 have n:mA m=none:=qJ.none_of (by rw [<-l];exact r m)
 exact Ka I.rQ O (c.get m) k.at_ k.fn n h
theorem Dv (I:Inv X pins σ H s) (e:H a=some (.ins C dx fs)) (c:vW X.K C) (n:iC X.K C f) (hl:fs.length<1000) (Y:RelV y u)
  (h:∀s',Inv X pins σ (upd H a (.ins C dx (iW f y fs))) s'->Q () s'):wpAny (model X.prog X.w) A (setAttr (.ref a) f u) Q E s:=by
 obtain ⟨mA,O,r,D,_,J⟩:=qZ I.hok e
 have Z:(fs.map (·.1)).length<=sizeLine:=by rw [z9,xn];omega
 refine QK I.rQ O c.sa c.po n.taker c.hd D Z λh' B U=>h _ ?_
 have hd:∃o,h'.get? dx=some o:=let ⟨o,_,_,e',_⟩:=B.ns;⟨o,e'⟩
 refine I.write (x:=a) (e:=dx) (by rw [e];exact True.intro) (.inr J) (λb q hb z=>(U.2 b hb).trans z) hd ?_
 refine ⟨by rw [aJ O.ne];exact J,?_,O.ne,B.obj,_,B.ns,λg=>?_,λg hg=>?_⟩
 ·have:=ql f y fs;omega
 ·show qJ ((iW f y fs).lookup g) (if g=f then some u else mA g)
  rw [qj]
  by_cases q:g=f
  ·rw [zo q,zo q];exact Y
  ·rw [zh q,zh q];exact r g
 ·by_cases q:g=f
  ·rw [q];exact (o7 f y fs).1
  ·refine (o7 f y fs).2 g (D g λz=>hg ?_)
   show (if g=f then some u else mA g)=none
   rw [zh q];exact z
theorem Inv.made (I:Inv X pins σ H s):Inv X pins σ (upd (upd H s.heap.objs.size (.own (s.heap.objs.size+1))) (s.heap.objs.size+1) (.ins C s.heap.objs.size []))
  { s with heap:=(s.heap.push PySem.W.emptyDict).push (PySem.W.instObj C s.heap.objs.size) }:=by
 have e1:(s.heap.push PySem.W.emptyDict).get? s.heap.objs.size=some PySem.W.emptyDict:=zz s.heap rfl
 have e2:((s.heap.push PySem.W.emptyDict).push (PySem.W.instObj C s.heap.objs.size)).get? (s.heap.objs.size+1)=some (PySem.W.instObj C s.heap.objs.size):=by
  have:=zz (s.heap.push PySem.W.emptyDict) (o:=PySem.W.instObj C s.heap.objs.size) rfl
  rwa [xo] at this
 have e3:(s.heap.push PySem.W.emptyDict).Ns s.heap.objs.size (λ_=>none):=⟨PySem.W.emptyDict,#[],_,e1,rfl,(λe z=>absurd z (by simp)),λ_=>rfl⟩
 have B:=I.laid (a:=s.heap.objs.size) (o:=.own (s.heap.objs.size+1)) (h':=s.heap.push PySem.W.emptyDict) (t':=s.toks) (λb u q=>zu _ q) (zx _) ⟨_,e1⟩
 refine B.laid (a:=s.heap.objs.size+1) (o:=.ins C s.heap.objs.size []) (t':=s.toks) (λb u q=>zu _ q) (Nat.le_of_eq (xo _ _)) ?_
 have ne:s.heap.objs.size≠s.heap.objs.size+1:=zH (Nat.lt_succ_self _)
 refine ⟨by rw [aJ ne,aL],yu _,ne,e2,λ_=>none,(Heap.Ns1.of_empty e3).at λo q=>zu _ q,λ_=>True.intro,λy n=>absurd rfl n⟩
theorem QM {prog:Program} {w:World} {env:Env} {e:Expr} {f:Str} {pos:Pos} {s:Shared} {Q:Value->Shared->Prop} (n:attributeBase e f env (eval e env)=eval e env)
  (h:wpAny (model prog w) A (eval e env) (λo s₁=>wpAny (model prog w) A (getAttr o f true) Q E s₁) E s):wpAny (model prog w) A (eval (.Attribute e f pos) env) Q E s:=
 Attribute_any_ h (by rw [arm_eval_Attribute,n])
end
def acT (K:PySem.W.Frag) (n:TE) (f:Str):TE:=λσ H Q=>n σ H λx H1=>∃a C dx fs v,x=.ref a/\H1 a=some (.ins C dx fs)/\vW K C/\iC K C f/\fs.lookup f=some v/\Q v H1
def acU (K:PySem.W.Frag) (z n:TE) (f:Str):TS:=λD σ H=>n σ H λy H1=>z σ H1 λx H2=>∃a C dx fs,x=.ref a/\H2 a=some (.ins C dx fs)/\vW K C/\iC K C f/\fs.length<1000 /\
 D.nx σ (upd H2 a (.ins C dx (iW f y fs)))
section
variable {X:Cx} {o e value:Expr} {f:Str} {pos pos' tpos:Pos} {ta tv:TE}
theorem V2 (he:PE X e ta) (J:attributeBase e f X.env (eval e X.env)=eval e X.env):PE X (.Attribute e f pos) (acT X.K ta f):=by
 intro pins s σ H Q I h
 refine QM J (bu (he pins s σ H _ I h) λu s1 z=>?_)
 obtain ⟨x,H1,Y,B,a,C,dx,fs,v,ex,O,c,n,l,q⟩:=z
 subst ex
 obtain rfl:u=Value.ref a:=B
 exact Du Y O c n l λZ s2 U D=>⟨v,H1,U,D,q⟩
theorem V3 (ha:PE X o ta) (Y:PE X value tv) (Z:swapsWith value (some (.Attribute o f pos')) pos.line X.env=pure false):PS X (.Assign [.Attribute o f pos'] value pos) (acU X.K ta tv f):=by
 intro pins s σ H D I h
 refine plainObj_wpAny_Assign_Attribute (bu (Y pins s σ H _ I h) λu B ⟨y,H1,I1,J,q⟩=>bu (ha pins B σ H1 _ I1 q) λU s2 z=>?_) Z
 obtain ⟨x,H2,I2,O,a,C,dx,fs,ex,ea,c,n,l,q2⟩:=z
 subst ex
 obtain rfl:U=Value.ref a:=O
 exact Dv I2 ea c n l J λs3 I3=>⟨σ,_,I3,q2⟩
theorem Ul {m : Str} {n : Pos} (he : PE X e te) (I : Inv X pins σ H s)
    (h : te σ H λx H1 => ∃ a C dx fs g, x = .ref a ∧ H1 a = some (.ins C dx fs) ∧ vW X.K C ∧ Meth X.K C m g ∧ fs.lookup m = none ∧
      ∀ z, Inv X pins σ H1 z → wpAny (model X.prog X.w) X.A (callWith pos (.ref g) [.ref a] (backTo pos (starEach args X.env)) (backToKw pos (keywordEach [] X.env))) Q X.xe z)
    (O : eval (.Call (.Attribute e m n) args [] pos) X.env = (do
      let ov ← eval e X.env
      standAt n.atName
      let (f, first) ← holding [ov] (getMethod ov m pl)
      callWith pos f first (backTo pos (starEach args X.env)) (backToKw pos (keywordEach [] X.env)))) :
    wpAny (model X.prog X.w) X.A (eval (.Call (.Attribute e m n) args [] pos) X.env) Q X.xe s := by
  refine PySem.W.methodCall_KW (pl := pl) (bu (he pins s σ H _ I h) λu z D=>?_) O
  obtain ⟨x, H1, B, J, a, C, dx, fs, g, ex, U, c, k, l, q⟩:=D
  subst ex
  obtain rfl : u = Value.ref a := J
  exact lW B U c k l (q z B)
end
section
variable {X:Cx} {pins:List (Addr × Obj)} {σ:St} {H:Hp} {s:Shared} {A:Around} {E:Value->Shared->Prop} {Q:Value->Shared->Prop} {c:Value} {b:Bool}
inductive uH (K:PySem.W.Frag) (H:Hp):V->Value->Prop where
 | non:uH K H .non (.type "NoneType")
 | bl (x:Bool):uH K H (.bl x) (.type "bool")
 | int (i:Int):uH K H (.int i) (.type "int")
 | str (x:Str):uH K H (.str x) (.type "str")
 | lst {a:Addr} {xs:List V} (e:H a=some (.lst xs)):uH K H (.ref a) (.type "list")
 | Dj {a:Addr} {o:Obj} {xs:List V} (e:H a=some (.Dj o (.lst xs))):uH K H (.ref a) (.type "list")
 | tup {a:Addr} {xs:List V} (e:H a=some (.tup xs)):uH K H (.ref a) (.type "tuple")
 | dK {a:Addr} {kvs:List (Key × V)} (e:H a=some (.dK kvs)):uH K H (.ref a) (.type "dict")
 | ins {a C dx:Addr} {fs:List (Str × V)} (e:H a=some (.ins C dx fs)) (cl:vW K C) (ha:PySem.W.findIn K (.ref C) "__class__"=some (some (.builtin "object.__class__")))
   (hn:PySem.W.specialIn K (.builtin "object.__class__") "__get__"=some (some (.builtin "getset_descriptor.__get__"))) (htk:PySem.W.takesIn K (.builtin "object.__class__")=some true)
   (hm:PySem.W.mroIn K C (.type "object")=some true):uH K H (.ref a) (.ref C)
end
structure bO (k:Nat) (A:Around):Prop where
 hd:A.handled=none
 dp:A.depth+3 * k+5<recursionLimit
 un:A.units+16 * k+200<cLine
 gd:A.guards=some []
theorem bO.mono {k:Nat} (r:bO k A) (h:j<=k):bO j A:=⟨r.hd,by have:=r.dp;omega,by have:=r.un;omega,r.gd⟩
theorem bO.deeper {k:Nat} {A:Around} (r:bO (k+1) A) (env:Env):bO k (A.deeper env):=
 ⟨r.hd,by have:=r.dp;show A.depth+1+3 * k+5<_;omega,by have:=r.un;show A.units+3+16 * k+200<_;omega,r.gd⟩
theorem Dw {A:Around}:(A.under (.builtin "type.__call__" ⟨.ref C::us,kw⟩)).depth=A.depth+1:=by
 first|rfl|simp [Around.under,Code.weight,Code.isCreation,Code.isGuard,Code.isCaller,Code.frames,Code.isFrame,guardIds]
theorem Dy {A:Around}:(A.under (.builtin "type.__call__" ⟨.ref C::us,kw⟩)).units=A.units+1:=by
 first|rfl|simp [Around.under,Code.cUnits,Code.frames,Code.isFrame]
theorem Bb {A:Around}:(A.under (.builtin "type.__call__" ⟨.ref C::us,kw⟩)).guards=A.guards:=by
 cases h:A.guards<;>first|(show _=_;simp [Around.under,h,pushGuards,Code.guards,Code.isGuard,guardIds])|rfl
theorem bO.make {k:Nat} {A:Around} (r:bO (k+1) A) (C:Addr) (us:List Value) (n:List (Str × Value)):bO k (A.under (.builtin "type.__call__" ⟨.ref C::us,n⟩)):=
 ⟨r.hd,by have:=r.dp;rw [Dw];omega,by have:=r.un;rw [Dy];omega,by rw [Bb];exact r.gd⟩
theorem bO.depth {k:Nat} {A:Around} (r:bO k A):A.depth<recursionLimit:=by have:=r.dp;omega
theorem bO.units {k:Nat} {A:Around} (r:bO k A):A.units+64<cLine:=by have:=r.un;omega
def ZR:TA:=λ_ H Q=>Q [] H
def ZS (z:TE) (n:TA):TA:=λσ H Q=>z σ H λx H1=>n σ H1 λxs H2=>Q (x::xs) H2
section
variable {X:Cx} {e:Expr} {es:List Expr} {te:TE} {t:TA} {pos:Pos}
theorem V4:PA X [] ZR:=λ_ _ _ _ H Q I h=>Calls.spliced_nil ⟨[],H,I,.nil,h⟩
theorem QV (U:PE X e te) (O:PA X es t) (J:starEach (e::es) X.env=(false,eval e X.env)::starEach es X.env:=by rfl):PA X (e::es) (ZS te t):=by
 intro pos pins s σ H Q I h
 rw [J]
 show wpAny _ _ (spliced ((false,eval e X.env)::backTo pos (starEach es X.env))) _ _ s
 refine Calls.spliced_cons (bu (U pins s σ H _ I h) λu z n=>?_)
 obtain ⟨x,H1,Z,D,q1⟩:=n
 exact bu (O pos pins z σ H1 _ Z q1) λus s2 n=>by obtain ⟨xs,H2,Y,B,q2⟩:=n;exact ⟨x::xs,H2,Y,.cons D B,q2⟩
def acV (t:TA):TE:=λσ H Q=>t σ H λxs H1=>xs.length<=sizeLine/\∀p,H1 p=none->Q (.ref p) (upd H1 p (.tup xs))
def acW (t:TA):TE:=λσ H Q=>t σ H λxs H1=>xs.length<=sizeLine/\∀p,H1 p=none->Q (.ref p) (upd H1 p (.lst xs))
theorem V5 {x1} (h:PA X es t):PE X (.Tuple es x1 pos) (acV t):=by
 intro pins s σ H Q I J
 refine wpAny_Tuple_spliced (bu (h pos pins s σ H _ I J) λD n ⟨xs,H1,B,r,z,q⟩=>⟨by rw [<-r.length];exact z,?_⟩)
 have hf:H1 n.heap.objs.size=none:=B.hok.fresh (zx _)
 refine ⟨.ref n.heap.objs.size,upd H1 n.heap.objs.size (.tup xs),B.laid (t':=n.toks) (λb u e=>zu _ e) (zx _) ?_,rfl,q _ hf⟩
 exact ⟨z,D,r,⟨_,zz _ rfl,rfl,_,rfl⟩⟩
theorem V6 (h:PA X es t):PE X (.List es pos) (acW t):=by
 intro pins s σ H Q I J
 refine wpAny_List_spliced (bu (h pos pins s σ H _ I J) λD n ⟨xs,H1,B,r,z,q⟩=>⟨by rw [<-r.length];exact z,?_⟩)
 have hf:H1 n.heap.objs.size=none:=B.hok.fresh (zx _)
 refine ⟨.ref n.heap.objs.size,upd H1 n.heap.objs.size (.lst xs),B.laid (t':=n.toks) (λb u e=>zu _ e) (zx _) ?_,rfl,q _ hf⟩
 exact ⟨z,D,0,r,zz _ rfl⟩
end
abbrev Sp:=List V->Hp->VK->XK->Prop
abbrev Ik:=List Env->Hp->Shared->XK->Value->Shared->Prop
structure Dz (P:Program) (w:World) (K:PySem.W.Frag) (mg:Str->Option Value) (base:Heap) (A:Around) (outer:List Env) (s:Shared) (H:Hp):Prop where
 frames:A.frames=some outer
 mod:Mod K mg base
 bs:∀b o,base.get? b=some o->s.heap.get? b=some o/\H b=none
 HW:base.objs.size<=s.heap.objs.size
 jD:s.heap.FunFrames base outer
 JG:∀b∈frs outer,H b=none
 hok:jG P w H s.heap
 bare:AllBare s.gens
def CE (outer:List Env) (P:Program) (w:World) (H:Hp) (s:Shared) (Q:VK) (u:Value) (s':Shared):Prop:=
 ∃v H',s'.os=s.os/\AllBare s'.gens/\Un (frs outer) [] H H' s.heap s'.heap/\jG P w H' s'.heap/\RelV v u/\Q v H'
def CR (CX:Ik) (outer:List Env) (P:Program) (w:World) (H:Hp) (s:Shared) (Q:VK) (E:XK) (r:Result) (s':Shared):Prop:=
 match r with
 | .ok (.ret u)=>CE outer P w H s Q u s'
 | .ok _=>False
 | .error e=>CX outer H s E e s'
structure bV (P:Program) (w:World) (K:PySem.W.Frag) (mg:Str->Option Value) (base:Heap) (CX:Ik) (k:Nat) (f:Addr) (fd:FuncData) (ps:List Str) (sp:Sp):Prop where
 len:∀vs H Q E,sp vs H Q E->vs.length=ps.length
 run:∀(A:Around) (outer:List Env) (s:Shared) (H:Hp) (args:Args) (us:List Value) (vs:List V) (Q:VK) (E:XK),bO k A->Dz P w K mg base A outer s H->BindsTo s fd args (ps.zip us)->Vals vs us->sp vs H Q E->
  codeAny (model P w) A (.call (.ref f) args) (CR CX outer P w H s Q E) s
theorem bV.imp {P:Program} {w:World} {K:PySem.W.Frag} {mg:Str->Option Value} {base:Heap} {CX:Ik} {k:Nat} {f:Addr} {fd:FuncData} {ps:List Str} {sp sp':Sp} (F:bV P w K mg base CX k f fd ps sp)
  (h:∀vs H Q E,sp' vs H Q E->sp vs H Q E):bV P w K mg base CX k f fd ps sp':=
 ⟨λvs H Q E q=>F.len vs H Q E (h _ _ _ _ q),λA outer s H args n vs Q E D I J z B=>F.run A outer s H args n vs Q E D I J z (h _ _ _ _ B)⟩
theorem Dz.make {P:Program} {w:World} {K:PySem.W.Frag} {mg:Str->Option Value} {base:Heap} {A:Around} {outer:List Env} {s:Shared} {H:Hp} (e:Dz P w K mg base A outer s H) (C:Addr) (us:List Value) (n:List (Str × Value)) :
  Dz P w K mg base (A.under (.builtin "type.__call__" ⟨.ref C::us,n⟩)) outer s H:=⟨by first|exact e.frames|(simpa [Around.under,Code.envs,Code.isFrame,pushEnvs] using e.frames),e.mod,e.bs,e.HW,e.jD,e.JG,e.hok,e.bare⟩
section
variable {X:Cx} {pins:List (Addr × Obj)} {σ:St} {H:Hp} {s s':Shared}
theorem Inv.env0 (I:Inv X pins σ H s):Dz X.prog X.w X.K X.mg X.base X.A X.stack s H:=
 ⟨I.ok.frames,I.ok.mod,I.bs,zY I.ok.HW I.sz,I.stack,I.qW,I.hok,I.bare⟩
theorem Inv.after (I:Inv X pins σ H s) (h:CE X.stack X.prog X.w H s Q u s'):EP X pins σ Q u s':=by
 obtain ⟨v,H',os,bare,un,hok,r,q⟩:=h
 obtain ⟨B,g,d,t,n⟩:=s'
 obtain rfl:n=s.os:=os
 exact ⟨v,H',I.call (h':=B) (g':=g) (d':=d) (t':=t) (ch:=[]) un hok bare (λb z=>absurd z (by simp)),r,q⟩
end
def Um (sp:Sp) (n:List V) (E:XK) (t:TA):TE:=λσ H Q=>t σ H λvs H1=>sp (vs++n) H1 Q E
def ZV (C:Addr) (m:Str) (sp:Sp) (n:List V) (E:XK) (z:TE) (t:TA):TE:=λσ H Q=>z σ H λx H1=>∃a dx fs,x=.ref a/\H1 a=some (.ins C dx fs)/\fs.lookup m=none /\
 t σ H1 λvs H2=>sp (x::(vs++n)) H2 Q E
def ZW (C:Addr) (sp:Sp) (n:List V) (E:XK) (t:TA):TE:=λσ H Q=>t σ H λvs H1=>∀x dx,H1 x=none->H1 dx=none->dx≠x->
 sp (.ref x::(vs++n)) (upd (upd H1 dx (.own x)) x (.ins C dx [])) (λv H2=>v=.non/\Q (.ref x) H2) E
def Binds (K:PySem.W.Frag) (fd:FuncData) (ps:List Str) (ds:List Value):Prop:=
 ∀(s:Shared) (n:List Value),K.In s.heap->(n++ds).length=ps.length->BindsTo s fd ⟨n,[]⟩ (ps.zip (n++ds))
theorem Binds.all {K:PySem.W.Frag} {fd:FuncData} {ps:List Str} (h:∀n:List Value,n.length=ps.length->bindArgs fd ⟨n,[]⟩=pure (ps.zip n)):Binds K fd ps []:=λs n _ z=>by
 rw [zX] at z ⊢
 exact .of_eq (h n z)
def Passes (CX:Ik) (X:Cx) (E:XK):Prop:=∀(pins:List (Addr × Obj)) (σ:St) (H:Hp) (s:Shared) (e:Value) (s':Shared),Inv X pins σ H s->CX X.stack H s E e s'->X.xe e s'
section
variable {X:Cx} {CX:Ik} {k:Nat} {f C:Addr} {fd:FuncData} {ps:List Str} {sp:Sp} {Il:List V} {ds:List Value} {E:XK} {x m:Str} {p pos apos:Pos} {e o:Expr} {es:List Expr} {ta:TE} {t:TA}
theorem DG (F:bV X.prog X.w X.K X.mg X.base CX k f fd ps sp) (D:bO k X.A) (O:Binds X.K fd ps ds) (hd:Vals Il ds) (B:Passes CX X E)
  (I:Inv X pins σ H s) (r:Vals vs us) (h:sp (vs++Il) H Q E):wpAny (model X.prog X.w) X.A (call (.ref f) us) (EP X pins σ Q) X.xe s:=by
 have z:Vals (vs++Il) (us++ds):=r.append hd
 have J:(us++ds).length=ps.length:=by rw [<-z.length];exact F.len _ _ _ _ h
 refine wpAny_call (codeAny_mono (F.run X.A X.stack s H ⟨us,[]⟩ (us++ds) (vs++Il) Q E D I.env0 (O s us I.rQ J) z h) λr s' n=>?_)
 cases r with
 | error e=>exact B pins σ H s e s' I n
 | ok fl=>
  cases fl with
  | ret u=>exact I.after n
  | next=>exact False.elim n
  | brk=>exact False.elim n
  | cont=>exact False.elim n
theorem QX (F:bV X.prog X.w X.K X.mg X.base CX k f fd ps sp) (D:bO k X.A) (U:Gl X x) (J:X.mg x=some (.ref f)) (O:PySem.W.keepIn X.K (.ref f)=true) (Y:Binds X.K fd ps ds) (hd:Vals Il ds) (B:Passes CX X E)
  (Z:PA X (e::es) t) (n:(x == ("__debug__":Str))=false:=by decide) (he:starEach (e::es) X.env=(false,eval e X.env)::starEach es X.env:=by rfl) (hpl:(backTo pos (starEach es X.env)).any (·.1)=false:=by rfl) :
  PE X (.Call (.Name x p) (e::es) [] pos) (Um sp Il E t):=by
 intro pins s σ H Q I h
 refine yR (kh I U J ?_ n)
 refine xd (h₀:=X.base) I.ok.mod.Qs O (bu (Z pos pins s σ H _ I h) λus s1 ⟨vs,H1,z,r,q⟩=>⟨z.rQ,?_⟩) he hpl
 exact DG F D Y hd B z r q
theorem Gh (he : PE X o ta) (c : vW X.K C) (z : Meth X.K C m f) (F : bV X.prog X.w X.K X.mg X.base CX k f fd ps sp) (hr : bO k X.A) (hb : Binds X.K fd ps ds) (hd : Vals Il ds) (Y : Passes CX X E) (ha : PA X (e :: es) t)
    (n : starEach (e :: es) X.env = (false, eval e X.env) :: starEach es X.env := by rfl) (hpl : (backTo pos (starEach es X.env)).any (·.1) = false := by rfl)
    (Z : eval (.Call (.Attribute o m apos) (e :: es) [] pos) X.env = (do
      let ov ← eval o X.env
      standAt apos.atName
      let (f, first) ← holding [ov] (getMethod ov m pl)
      callWith pos f first (backTo pos (starEach (e :: es) X.env)) (backToKw pos (keywordEach [] X.env))) := by rfl) :
    PE X (.Call (.Attribute o m apos) (e :: es) [] pos) (ZV C m sp Il E ta t) := by
  intro pins s σ H Q I h
  refine PySem.W.methodCall_KW (pl := pl) (bu (he pins s σ H _ I h) λu O J=>?_) Z
  obtain ⟨x, H1, D, U, a, dx, fs, ex, ea, l, q⟩:=J
  subst ex
  obtain rfl : u = Value.ref a := U
  refine lW D ea c z l ?_
  refine xd (first := [.ref a]) (h₀ := X.base) I.ok.mod.Qs z.kp (bu (ha pos pins O σ H1 _ D q) λus s2 ⟨vs, H2, B, r, q2⟩ => ⟨B.rQ, ?_⟩) n hpl
  exact DG (us := .ref a :: us) (vs := .ref a :: vs) F hr hb hd Y B (.cons rfl r) q2
structure Mk (K:PySem.W.Frag) (C f:Addr):Prop where
 makes:PySem.W.makesIn K C=true
 init:PySem.W.findIn K (.ref C) "__init__"=some (some (.ref f))
 fn:PySem.W.isFn K (.ref f)=true
 kp:PySem.W.keepIn K (.ref C)=true
theorem Kd {B:St} (M:Mk X.K C f) (F:bV X.prog X.w X.K X.mg X.base CX k f fd ps sp) (Z:bO (k+1) X.A) (hb:Binds X.K fd ps ds) (hd:Vals Il ds)
  (Y:Passes CX X E) (I:Inv X pins B H s) (r:Vals vs us)
  (h:∀x dx,H x=none->H dx=none->dx≠x->sp (.ref x::(vs++Il)) (upd (upd H dx (.own x)) x (.ins C dx [])) (λv H2=>v=.non/\Q (.ref x) H2) E) :
  wpAny (model X.prog X.w) X.A (call (.ref C) us) (EP X pins B Q) X.xe s:=by
 have J:=h (s.heap.objs.size+1) s.heap.objs.size (I.hok.fresh (Nat.le_succ _)) (I.hok.fresh (zx _)) (zH (Nat.lt_succ_self _))
 have z:=Inv.made (C:=C) I
 have D:Vals (V.ref (s.heap.objs.size+1)::(vs++Il)) (Value.ref (s.heap.objs.size+1)::(us++ds)):=.cons rfl (r.append hd)
 have hl:(Value.ref (s.heap.objs.size+1)::us++ds).length=ps.length:=by
  have e:=D.length
  rw [F.len _ _ _ _ J] at e
  exact e.symm
 refine wpAny_call (Kc (f:=f) I.rQ M.makes M.init (beq_iff_eq.mp M.fn) (codeAny_mono (F.run _ X.stack _ _ ⟨Value.ref (s.heap.objs.size+1)::us,[]⟩ (Value.ref (s.heap.objs.size+1)::(us++ds)) _ _ E (Z.make C us [])
  (z.env0.make C us []) (hb _ (Value.ref (s.heap.objs.size+1)::us) z.rQ hl) D J) λr s' n=>?_))
 cases r with
 | error e=>exact Y pins B _ _ e s' z n
 | ok fl=>
  cases fl with
  | ret u=>
   obtain ⟨v,H',I3,O,ev,U⟩:=z.after n
   subst ev
   exact ⟨O,⟨V.ref (s.heap.objs.size+1),H',I3,rfl,U⟩⟩
  | next=>exact False.elim n
  | brk=>exact False.elim n
  | cont=>exact False.elim n
theorem Ke (M:Mk X.K C f) (F:bV X.prog X.w X.K X.mg X.base CX k f fd ps sp) (B:bO (k+1) X.A) (J:Gl X x) (D:X.mg x=some (.ref C)) (O:Binds X.K fd ps ds) (hd:Vals Il ds) (z:Passes CX X E)
  (n:(x == ("__debug__":Str))=false:=by decide):PE X (.Call (.Name x p) [] [] pos) (ZW C sp Il E ZR):=by
 intro pins s σ H Q I h
 refine yR (kh I J D ?_ n)
 exact PySem.W.callWith_K0 I.rQ M.kp (Kd (us:=[]) M F B O hd z I .nil h)
end
structure ao (N P:List Str) (sc:Scope):Prop where
 kind:sc.kind=.function
 co:sc.isCoroutine=false
 gen:sc.isGenerator=false
 nd:N.Nodup
 pre:N.take P.length=P
 par:∀x∈P,sc.names.lookup x=some .local\/sc.names.lookup x=some .cell
 V7:∀y∈sc.names,y.2≠.free
theorem uT {z:Str->Option NameKind} {x:Str}:∀{binds:List (Str × Value)} {m:Str->Option Value},(∀v,(x,v) ∉ binds)->bindL z binds m x=m x
 | [],_,_=>rfl
 | (n,v)::r,m,h=>by
  unfold bindL
  rw [uT λw B=>h w (zn _ B)]
  split
  ·have:x≠n:=by rintro rfl;exact h v zt
   simp [this]
  ·rfl
theorem uU {z:Str->Option NameKind} {x:Str}:∀{binds:List (Str × Value)} {m:Str->Option Value},(∀v,(x,v) ∉ binds)->bindC z binds m x=m x
 | [],_,_=>rfl
 | (n,v)::r,m,h=>by
  unfold bindC
  rw [uU λw B=>h w (zn _ B)]
  split
  ·rfl
  ·have:x≠n:=by rintro rfl;exact h v zt
   simp [this]
theorem uV {n:Str->Option NameKind} {x:Str} {v:Value}:∀{P:List Str} {vs:List Value} {i:Nat} {m:Str->Option Value},P.Nodup->P[i]? = some x->vs[i]? = some v->n x=some .local->
  bindL n (P.zip vs) m x=some v
 | [],_,_,_,_,h,_,_=>by simp at h
 | _::_,[],_,_,_,_,h,_=>by simp at h
 | p::P,w::vs,0,m,nd,h1,h2,hk=>by
  simp at h1 h2;subst h1;subst h2
  show bindL n ((p,w)::P.zip vs) m p=_
  unfold bindL
  rw [uT λv z=>(yh.mp nd).1 (List.of_mem_zip z).1,zo hk]
  simp
 | p::P,w::vs,i+1,m,nd,h1,h2,hk=>by
  show bindL n ((p,w)::P.zip vs) m x=_
  unfold bindL
  exact uV (i:=i) (yh.mp nd).2 (by simpa using h1) (by simpa using h2) hk
theorem uW {n:Str->Option NameKind} {x:Str} {v:Value}:∀{P:List Str} {vs:List Value} {i:Nat} {m:Str->Option Value},P.Nodup->P[i]? = some x->vs[i]? = some v->n x≠some .local->
  bindC n (P.zip vs) m x=some v
 | [],_,_,_,_,h,_,_=>by simp at h
 | _::_,[],_,_,_,_,h,_=>by simp at h
 | p::P,w::vs,0,m,nd,h1,h2,hk=>by
  simp at h1 h2;subst h1;subst h2
  show bindC n ((p,w)::P.zip vs) m p=_
  unfold bindC
  rw [uU λv z=>(yh.mp nd).1 (List.of_mem_zip z).1,zh hk]
  simp
 | p::P,w::vs,i+1,m,nd,h1,h2,hk=>by
  show bindC n ((p,w)::P.zip vs) m x=_
  unfold bindC
  exact uW (i:=i) (yh.mp nd).2 (by simpa using h1) (by simpa using h2) hk
def start (N:List Str) (vs:List V):St:=vs.map some++List.replicate (N.length - vs.length) none
def fM (CX:Ik) (P:Program) (w:World) (K:PySem.W.Frag) (mg:Str->Option Value) (base:Heap) (N:List Str) (z:Str) (n:Scope) (f:Addr) (D:Value) (A:Around) (outer:List Env) (s:Shared) (H:Hp) (E:XK):Cx where
 prog:=P
 w:=w
 K:=K
 mg:=mg
 base:=base
 A:=A.deeper (envOfC z n s.heap.objs.size f D)
 N:=N
 s₀:=s
 H₀:=H
 env:=envOfC z n s.heap.objs.size f D
 outer:=outer
 stack:=envOfC z n s.heap.objs.size f D::outer
 ex:=[]
 calm:=true
 fn:=λ_=>true
 pn:=[]
 xe:=λe s'=>wpAny (model P w) (A.deeper (envOfC z n s.heap.objs.size f D)) (leaving (envOfC z n s.heap.objs.size f D) e) (λ_ B=>CX outer H s E e B) (λI B=>CX outer H s E I B) s'
theorem Bc {z:Scope} {n:Nat} {x:Str} (h:z.names.lookup x=some .cell):∃c,(cellsFrom n z.names []).lookup x=some c:=by
 have q:=PySem.W.cellsFrom_some z.names n [] (.inl h)
 exact yH.mp q
theorem Im {CX:Ik} {P:Program} {w:World} {K:PySem.W.Frag} {mg:Str->Option Value} {base:Heap} {N ps:List Str} {D:Str} {B:Scope} {f:Addr} {Z:Value} {A:Around} {outer:List Env} {s s1:Shared} {H:Hp} {E:XK} {us:List Value} {vs:List V}
  (S:ao N ps B) (hd:A.handled=none) (I:Dz P w K mg base A outer s H) (hl:vs.length=ps.length) (r:Vals vs us)
  (x:InCallC s s.heap.objs.size (bindL (envOfC D B s.heap.objs.size f Z).kindOf (ps.zip us) λ_=>none) (cellsFrom (s.heap.objs.size+1) B.names []) (bindC (envOfC D B s.heap.objs.size f Z).kindOf (ps.zip us) λ_=>none) s1) :
  Inv (fM CX P w K mg base N D B f Z A outer s H E) [] (start N vs) H s1:=by
 have hpl:ps.length<=N.length:=by have:=yd List.length S.pre;rw [yq] at this;omega
 obtain ⟨h1,tk,rfl,hk⟩:=x.done
 have J:∀b:Addr,b ∉ (fM CX P w K mg base N D B f Z A outer s H E).ex:=λb z=>absurd (show b∈([]:List Addr) from z) (by simp)
 refine ⟨⟨I.mod,S.kind,rfl,rfl,zx _,λy z c h1 h2=>?_,λy O=>?_,λy c _ h=>?_,λ_=>hd,Around.frames_deeper I.frames,.inr ⟨rfl,rfl⟩,λb z=>absurd z (J b),I.bs,I.HW,λb _ _=>J b,λb z=>absurd z (J b),I.jD,I.JG⟩,
  rfl,I.bare,Un.kept hk,⟨_,x.toInCall.ns,λi y v h1 h2 h3=>?_⟩,λy c h=>⟨_,x.cell y c h⟩,I.hok.fresh (zx _),λy c h=>?_,λp Y=>absurd (show p∈([]:List (Addr × Obj)) from Y) (by simp),I.hok.kept hk,?_⟩
 ·exact name_of_addr x.apart (yM h1) (yM h2)
 ·have O:B.names.lookup y=some .cell\/B.names.lookup y=some .free:=O
  rcases O with O|O
  ·exact Bc O
  ·exact absurd rfl (S.V7 _ (yM O))
 ·exact xp (x.above y c (yM h))
 ·have hi:i<vs.length:=by
   unfold start at h2
   by_cases hi:i<vs.length
   ·exact hi
   ·rw [zS (by simpa using hi)] at h2
    rw [zQ] at h2
    split at h2<;>cases h2
  have ha:vs[i]? = some v:=by
   unfold start at h2
   rw [zJ (by simpa using hi),zN] at h2
   cases e:vs[i]? with
   | none=>rw [e] at h2;cases h2
   | some a=>rw [e] at h2;cases (h2);rfl
  obtain ⟨u,hu,rv⟩:=r.get ha
  have Y:ps[i]? = some y:=by
   rw [<-S.pre,List.getElem?_take_of_lt (by omega)];exact h1
  have U:ps.Nodup:=by rw [<-S.pre];exact S.nd.sublist (List.take_sublist _ _)
  refine ⟨u,rv,?_⟩
  rcases S.par y (yn Y) with k|k
  ·exact .inl ⟨k,uV U Y hu k⟩
  ·obtain ⟨c,e⟩:=Bc (n:=s.heap.objs.size+1) k
   refine .inr ⟨.inl k,c,e,?_⟩
   have q:=x.cell y c e
   rw [uW U Y hu (by show B.names.lookup y≠_;rw [k];decide)] at q
   exact q
 ·exact I.hok.fresh (xp (x.above y c (yM h)))
 ·unfold start
  show _=N.length
  rw [zj,z9,zD]
  omega
theorem Uo {CX:Ik} {P:Program} {w:World} {K:PySem.W.Frag} {mg:Str->Option Value} {base:Heap} {k:Nat} {f:Addr} {name B:Str} {O:Arguments} {body:List Stmt} {z:Scope} {dV kV doc pm D ct oc:Value} {an od:Option Addr}
  {osl:Array (Option Value)} {N ps:List Str} {sp:Sp} (lk:K.lookup f=some ⟨oc,od,.func (PySem.W.fnOf name B O body z dV kV doc pm an D ct),osl⟩) (hcd:PySem.W.codeIn K D B=true) (S:ao N ps z)
  (len:∀vs H Q E,sp vs H Q E->vs.length=ps.length)
  (Y:∀(A:Around) (outer:List Env) (s:Shared) (H:Hp) (vs:List V) (Q:VK) (E:XK),bO k (A.deeper (envOfC B z s.heap.objs.size f D))->sp vs H Q E->
   ∃t,gw (fM CX P w K mg base N B z f D A outer s H E) body t/\t { nx:=λ_ H'=>Q .non H',rt:=Q } (start N vs) H) :
  bV P w K mg base CX (k+1) f (PySem.W.fnOf name B O body z dV kV doc pm an D ct) ps sp:=by
 refine ⟨len,λA outer s H args us vs Q E hr e0 hb r hsp=>?_⟩
 have hl:=len _ _ _ _ hsp
 have KX:K.In s.heap:=e0.mod.Qs.keeps λb o e=>(e0.bs b o e).1
 have lim:s.heap.NoLimit:=e0.mod.nolimit.keeps λb o e=>(e0.bs b o e).1
 have U:∀y∈ps.zip us,z.names.lookup y.1=some .local\/(z.names.lookup y.1=some .cell/\((cellsFrom (s.heap.objs.size+1) z.names []).lookup y.1).isSome=true):=λ⟨n,v⟩ hy=>by
  rcases S.par n (List.of_mem_zip hy).1 with q|q
  ·exact .inl q
  ·exact .inr ⟨q,PySem.W.cellsFrom_some _ _ _ (.inl q)⟩
 refine codeAny_call_function hr.depth (KX _ _ lk) rfl S.co S.gen rfl (PySem.W.codeRec_of KX hcd) (hb _ _ _ _ ?_)
 refine wpAny_newFunctionEnv_cells S.kind U λenv he s1 x=>?_
 subst he
 refine ⟨lim.keeps x.toInCall.keep,codeAny_func ?_⟩
 obtain ⟨t,ht,hq⟩:=Y A outer s H vs Q E (hr.deeper _) hsp
 have I:Inv (fM CX P w K mg base N B z f D A outer s H E) [] (start N vs) H s1:=Im S hr.hd e0 hl r x
 refine xl (ht [] s1 (start N vs) H _ I hq) (λfl s' Z=>?_) λe s' Z=>Z
 have fin:∀{σ':St} {H':Hp} {v:V} {u:Value},Inv (fM CX P w K mg base N B z f D A outer s H E) [] σ' H' s'->RelV v u->Q v H'->CE outer P w H s Q u s':=
  λ{σ' H' v u} J rv q=>⟨v,H',J.os,J.bare,J.base,J.hok,rv,q⟩
 cases fl with
 | ret u=>
  obtain ⟨v,σ',H',J,rv,q⟩:=Z
  exact fin J rv q
 | next=>
  obtain ⟨σ',H',J,q⟩:=Z
  exact fin (v:=V.non) (u:=Value.none) J rfl q
 | brk=>
  obtain ⟨_,_,_,q⟩:=Z
  exact False.elim q
 | cont=>
  obtain ⟨_,_,_,q⟩:=Z
  exact False.elim q
section
variable {X:Cx} {x:Str} {p pos:Pos} {e:Expr} {es:List Expr} {t:TA} {id T:String} {r:List V->Hp->VK->Prop}
def tCB (r:List V->Hp->VK->Prop) (t:TA):TE:=λσ H Q=>t σ H λvs H1=>r vs H1 Q
theorem eY (hc:g_ X (.builtin id) r) (Z:Gl X x) (Y:X.mg x=none) (O:bootBuiltins x=some (.builtin id)) (ha:PA X (e::es) t) (U:x≠"__name__":=by decide) (n:(x == ("__debug__":Str))=false:=by decide)
  (he:starEach (e::es) X.env=(false,eval e X.env)::starEach es X.env:=by rfl) (hpl:(backTo pos (starEach es X.env)).any (·.1)=false:=by rfl):PE X (.Call (.Name x p) (e::es) [] pos) (tCB r t):=by
 intro pins s σ H Q I h
 refine yR (gM I Z Y O ?_ U n)
 exact PyProof.Rows.callWith_builtin1 (bu (ha pos pins s σ H _ I h) λB D z=>by obtain ⟨vs,H1,I1,J,q1⟩:=z;exact hc pins D σ H1 vs B Q I1 J q1) he hpl
theorem o8 (hc:g_ X (.type T) r) (Z:Gl X x) (Y:X.mg x=none) (O:bootBuiltins x=some (.type T)) (ha:PA X (e::es) t) (U:x≠"__name__":=by decide) (n:(x == ("__debug__":Str))=false:=by decide)
  (he:starEach (e::es) X.env=(false,eval e X.env)::starEach es X.env:=by rfl) (hpl:(backTo pos (starEach es X.env)).any (·.1)=false:=by rfl):PE X (.Call (.Name x p) (e::es) [] pos) (tCB r t):=by
 intro pins s σ H Q I h
 refine yR (gM I Z Y O ?_ U n)
 exact zW (bu (ha pos pins s σ H _ I h) λB D z=>by obtain ⟨vs,H1,I1,J,q1⟩:=z;exact hc pins D σ H1 vs B Q I1 J q1) he hpl
end
end L2
namespace HT
open PySem PyProof.Rows
section
variable {prog:Program} {w:World} {A:Around} {E:Value->Shared->Prop} {s:Shared}
def Ai (n d:Nat):Option Int->Nat
 | none=>d
 | some v=>if v<0 then (v+(n:Int)).toNat else min v.toNat n
end
end HT
namespace L2
open PySem PySem.Spec PyProof.Rows
abbrev TO:=St->Hp->(Option Int->Hp->Prop)->Prop
def PO (X:Cx) (e:Option Expr) (t:TO):Prop:=
 ∀(pins:List (Addr × Obj)) (s:Shared) (σ:St) (H:Hp) (Q:Option Int->Hp->Prop),Inv X pins σ H s->t σ H Q->
  wpAny (model X.prog X.w) X.A (evalPart e X.env) (λu s'=>∃o H',Inv X pins σ H' s'/\IsPart u o/\Q o H') X.xe s
def QZ:TO:=λ_ H Q=>Q none H
def ZX (t:TE):TO:=λσ H Q=>t σ H λx H1=>∃i,x=.int i/\Q (some i) H1
section
variable {X:Cx} {e:Expr} {te:TE} {lo hi:Option Expr} {tl th:TO} {pos p2:Pos}
theorem Q0:PO X none QZ:=by
 intro pins s σ H Q I h
 rw [evalPart_none]
 exact zB ⟨none,H,I,.none,h⟩
theorem Q3 (h:PE X e te):PO X (some e) (ZX te):=by
 intro pins s σ H Q I B
 rw [evalPart_some]
 refine bu (h pins s σ H _ I B) λu J n=>?_
 obtain ⟨x,H1,D,z,q1⟩:=n
 obtain ⟨i,rfl,q⟩:=q1
 obtain ⟨t,rfl⟩:=z
 exact ⟨some i,H1,D,.int i t,q⟩
def SlR (X:Cx) (r:V->Option Int->Option Int->Hp->VK->Prop):Prop:=
 ∀(pins:List (Addr × Obj)) (s:Shared) (σ:St) (H:Hp) (x:V) (v vl vu:Value) (lo hi:Option Int) (sl:Addr) (Q:VK),Inv X pins σ H s->RelV x v->s.heap.IsSliceOf sl vl vu .none->IsPart vl lo->IsPart vu hi->r x lo hi H Q->
  ∃T id,typeLookup (.type T) "__getitem__"=pure (some (.builtin id))/\s.TypeIs v T/\wpAny (model X.prog X.w) X.A (getItem v (.ref sl)) (EP X pins σ Q) X.xe s
def tSl (r:V->Option Int->Option Int->Hp->VK->Prop) (z:TE) (n th:TO):TE:=λσ H Q=>z σ H λx H1=>n σ H1 λl H2=>th σ H2 λu B=>r x l u B Q
theorem Bd {r:V->Option Int->Option Int->Hp->VK->Prop} (hr:SlR X r) (he:PE X e te) (hl:PO X lo tl) (hu:PO X hi th):PE X (.Subscript e (.Slice lo hi none p2) pos) (tSl r te tl th):=by
 intro pins s σ H Q I h
 refine Subscript_ (bu (he pins s σ H _ I h) λv U D=>?_)
 obtain ⟨x,H1,I1,Y,q1⟩:=D
 refine wpAny_Slice (bu (hl pins U σ H1 _ I1 q1) λB O ⟨l,H2,I2,pl,q2⟩=>bu (hu pins O σ H2 _ I2 q2) λz n D=>?_)
 obtain ⟨u,J,I3,pu,Z⟩:=D
 rw [evalPart_none]
 refine zB ?_
 have I4:Inv X pins σ J { n with heap:=n.heap.push { cls:=.type "slice",data:=.fields #[B,z,.none] } }:=I3.kept (t':=n.toks) λb ob q=>zu _ q
 obtain ⟨T,id,hT,ht,hg⟩:=hr pins { n with heap:=n.heap.push { cls:=.type "slice",data:=.fields #[B,z,.none] } } σ J x v B z l u n.heap.objs.size Q I4 Y (Heap.IsSliceOf.new ..) pl pu Z
 show wpAny (model X.prog X.w) X.A (subscriptTail e (.Slice lo hi none p2) v (.ref n.heap.objs.size)) (EP X pins σ Q) X.xe { n with heap:=n.heap.push { cls:=.type "slice",data:=.fields #[B,z,.none] } }
 exact tail_any (ops:=[.ref n.heap.objs.size,v]) ht hT hg (by with_unfolding_all rfl)
def Io (xs:List V) (lo hi:Option Int):List V:=(xs.drop (HT.Ai xs.length 0 lo)).take (HT.Ai xs.length xs.length hi - HT.Ai xs.length 0 lo)
theorem Be (xs:List V) (lo hi:Option Int):(Io xs lo hi).length<=xs.length:=by
 unfold Io
 rw [yq,yA]
 omega
end
def Bf (n:Nat) (i:Int):Option Nat:=if 0<=i then (if i<n then some i.toNat else none) else if -(n:Int)<=i then some (i+n).toNat else none
def gA {α:Type} (xs:List α) (i:Int):Option α:=(Bf xs.length i).bind λj=>xs[j]?
theorem Gi {n:Nat} {i:Int} {j:Nat} (h:Bf n i=some j):seqIndex? i n=some j/\j<n/\-(n:Int)<=i/\i<n:=by
 unfold Bf at h
 by_cases h0:0<=i
 ·rw [zo h0] at h
  by_cases h1:i<n
  ·rw [zo h1] at h
   have e:i.toNat=j:=ya h
   exact ⟨by rw [seqIndex_of h0 h1,e],by omega,by omega,h1⟩
  ·rw [zh h1] at h;cases h
 ·rw [zh h0] at h
  by_cases h1:-(n:Int)<=i
  ·rw [zo h1] at h
   have e:(i+n).toNat=j:=ya h
   exact ⟨by rw [seqIndex_neg (by omega) h1,e],by omega,h1,by omega⟩
  ·rw [zh h1] at h;cases h
theorem vX {α:Type} {xs:List α} {i:Int} {v:α} (h:gA xs i=some v):∃j,seqIndex? i xs.length=some j/\xs[j]? = some v/\j<xs.length/\-(xs.length:Int)<=i/\i<xs.length:=by
 unfold gA at h
 cases e:Bf xs.length i with
 | none=>rw [e] at h;cases h
 | some j=>
  rw [e] at h
  obtain ⟨h1,h2,h3,h4⟩:=Gi e
  exact ⟨j,h1,h,h2,h3,h4⟩
theorem dF {α:Type} {xs:List α} {j:Nat} {v:α} (h:xs[j]? = some v):gA xs (j:Int)=some v:=by
 have n:j<xs.length:=(zp.mp h).1
 have e:Bf xs.length (j:Int)=some j:=by
  unfold Bf
  rw [zo (by omega),zo (by omega)];simp
 unfold gA;rw [e];exact h
def nG (b:Expr):Prop:=∀o i,subscripted b false o i=operate [o,i] (getItem o i)
def Qi (X:Cx) (r:R2):Prop:=
 ∀(value n:Expr) (pins:List (Addr × Obj)) (s:Shared) (σ:St) (H:Hp) (x y:V) (v u:Value) (Q:VK),Inv X pins σ H s->RelV x v->RelV y u->r x y H Q->
  subscripted n false v u=operate [v,u] (getItem v u)->wpAny (model X.prog X.w) X.A (subscriptTail value n v u) (EP X pins σ Q) X.xe s
def Uq (X:Cx) (n:String) (r:V->List V->Hp->VK->Prop):Prop:=
 ∀(pins:List (Addr × Obj)) (s:Shared) (σ:St) (H:Hp) (x:V) (xs:List V) (v:Value) (us:List Value) (Q:VK),Inv X pins σ H s->RelV x v->Vals xs us->r x xs H Q->
  wpAny (model X.prog X.w) X.A (call (.builtin n) (v::us)) (EP X pins σ Q) X.xe s
section
variable {X:Cx} {a b:Expr} {ta tb:TE} {pos:Pos}
theorem Qi.or {D:R2} (h:Qi X r) (h':Qi X D):Qi X (λx y H Q=>r x y H Q\/D x y H Q):=by
 intro value n pins s σ H x y v u Q I B z q J
 rcases q with q|q
 ·exact h value n pins s σ H x y v u Q I B z q J
 ·exact h' value n pins s σ H x y v u Q I B z q J
theorem Kf (J:Qi X r) (U:PE X a ta) (O:PE X b tb) (D:nG b):PE X (.Subscript a b pos) (ZK r ta tb):=by
 intro pins s σ H Q I h
 exact Subscript_ (Qz U O I h λv u n x y H2 Y B z q=>J a b pins n σ H2 x y v u Q Y B z q (D _ _))
def V8 (K:PySem.W.Frag):R2:=λx y H Q=>∃p xs i v,x=.ref p/\y=.int i/\iV K H p xs/\gA xs i=some v/\Q v H
def ZZ (K:PySem.W.Frag):R2:=λx y H Q=>∃p xs i v,x=.ref p/\y=.int i/\Dm K H p xs/\gA xs i=some v/\Q v H
def acX:R2:=λx y H Q=>∃z i c,x=.str z/\y=.int i/\z.length<=sizeLine/\gA z.cps.toList i=some c/\Q (.str ⟨#[c]⟩) H
theorem Gj:Qi X (V8 X.K):=by
 intro value n pins s σ H x y v u Q I Z Y h O
 obtain ⟨p,xs,i,z,rfl,rfl,hq,he,q⟩:=h
 cases Z
 obtain ⟨t,rfl⟩:=Y
 obtain ⟨D,r,pl,hz⟩:=I.list hq
 obtain ⟨j,h1,h2,h3,h4,h5⟩:=vX he
 obtain ⟨w,U,B⟩:=r.get h2
 have hl:=r.length
 have hn:=lV
 have fin:EP X pins σ Q w s:=⟨z,H,I,B,q⟩
 by_cases h0:0<=i
 ·have J:i.toNat=j:=by
   rw [seqIndex_of h0 h5] at h1
   exact ya h1
  exact item_listR pl.isList h0 (by omega) (by rw [J];simpa using U) fin O
 ·have J:(i+(D.toArray.size:Int)).toNat=j:=by
   rw [seqIndex_neg (by omega) h4] at h1
   rw [zC,<-hl]
   exact ya h1
  exact subscriptTail_builtinR (x:=w) pl.isList.typeIs slot_list_getitem.lookup
   (wpAny_getItem_list_neg (Q:=λr s'=>r=w/\EP X pins σ Q r s') pl.isList (by omega) (by rw [zC]<;>omega) (by omega) (by rw [J];simpa using U) ⟨rfl,fin⟩) O
theorem V9:Qi X (ZZ X.K):=by
 intro value n pins s σ H x y v u Q I J D h U
 obtain ⟨p,xs,i,z,rfl,rfl,Y,he,q⟩:=h
 cases J
 obtain ⟨t,rfl⟩:=D
 obtain ⟨O,r,pl,hz⟩:=I.tuple Y
 obtain ⟨j,h1,h2,h3,h4,h5⟩:=vX he
 obtain ⟨w,ew,B⟩:=r.get h2
 have Z:=r.length
 have hn:=lV
 have fin:EP X pins σ Q w s:=⟨z,H,I,B,q⟩
 exact subscriptTail_builtinR (x:=w) pl.typeIs slot_tuple_getitem.lookup
  (getItem_tuple (j:=j) (Q:=λr s'=>r=w/\EP X pins σ Q r s') pl (by omega) (by omega) (by rw [zC,<-Z];exact h1) (by simpa using ew) ⟨rfl,fin⟩) U
theorem V_:Qi X acX:=by
 intro value n pins s σ H x y v u Q I D B h J
 obtain ⟨z,i,c,rfl,rfl,hz,U,q⟩:=h
 obtain ⟨t,rfl⟩:=D
 obtain ⟨Z,rfl⟩:=B
 obtain ⟨j,h1,h2,h3,h4,Y⟩:=vX U
 have O:z.cps.toList.length=z.length:=by simp [Str.length]
 rw [O] at h1 h4 Y
 have hn:=lV
 exact tail_any (typeIs_str s z t) slot_str_getitem.lookup (getItem_str (c:=c) (by
  have e1:decide (i < -(2 ^ 63:Int))=false:=zO (by omega)
  have e2:decide (i>=2 ^ 63)=false:=zO (by omega)
  rw [e1,e2,Bool.or_false]) (by rw [h1];simpa using h2) ⟨.str ⟨#[c]⟩,H,I.tok _,⟨_,rfl⟩,q⟩) J
theorem DK (z:List Value) (n j:Nat) (u:Value):Obj.mapSeq (·.setIfInBounds j u) { cls:=.type "list",data:=.seq z.toArray n }={ cls:=.type "list",data:=.seq (z.set j u).toArray n }:=by
 simp [Obj.mapSeq]
theorem Inv.lst {D:List (Addr × Obj)} {J:St} {H:Hp} {s:Shared} {p:Addr} {xs:List V} (I:Inv X D J H s) (h:H p=some (.lst xs)) :
  ∃(B:List Value) (n:Nat),Vals xs B/\s.heap.get? p=some { cls:=.type "list",data:=.seq B.toArray n }/\xs.length<=sizeLine:=by
 obtain ⟨z,B,n,r,e⟩:=I.hok p _ h
 exact ⟨B,n,r,e,z⟩
theorem Inv.Wa {s:Shared} {B:List V} {z its':List Value} (I:Inv X pins σ H s) (h:H p=some (.lst xs))
  (J:s.heap.get? p=some { cls:=.type "list",data:=.seq z.toArray n }) (hf:f { cls:=.type "list",data:=.seq z.toArray n }={ cls:=.type "list",data:=.seq its'.toArray n' }) (r:Vals B its') (D:B.length<=sizeLine) (t:Nat) :
  Inv X pins σ (upd H p (.lst B)) { s with heap:=s.heap.update p f,toks:=t }:=by
 have e:(s.heap.update p f).get? p=some { cls:=.type "list",data:=.seq its'.toArray n' }:=by
  rw [Heap.get?_update_self f J (by rw [hf]<;>rfl),hf]
 refine I.write (x:=p) (e:=p) (by rw [h];trivial) (.inl rfl) (λb u O q=>(yN _ _ (Ne.symm O)).trans q) ⟨_,e⟩ ?_
 exact ⟨D,its',n',r,e⟩
def Z0:V->V->V->Hp->(Hp->Prop)->Prop:=λo i v H Q=>∃p xs k j,o=.ref p/\i=.int k/\H p=some (.lst xs)/\Bf xs.length k=some j/\Q (upd H p (.lst (xs.set j v)))
theorem set_list:Vy X Z0:=by
 intro pins s σ H o i v ov iv u Q I Z ri Y h
 obtain ⟨p,xs,k,j,rfl,rfl,O,hj,q⟩:=h
 cases Z
 obtain ⟨t,rfl⟩:=ri
 obtain ⟨z,n,r,B,hz⟩:=I.lst O
 obtain ⟨h1,h2,h3,h4⟩:=Gi hj
 have D:=r.length
 have hn:=lV
 have U:Inv X pins σ (upd H p (.lst (xs.set j v))) { s with heap:=s.heap.update p (Obj.mapSeq (·.setIfInBounds j u)) }:=
  I.Wa O B (DK z n j u) (r.set Y j) (by rw [zR];exact hz) s.toks
 by_cases h0:0<=k
 ·have J:k.toNat=j:=by
   rw [seqIndex_of h0 h4] at h1
   exact ya h1
  exact PySem.W.ki_setAt B h0 (by omega) (by rw [zC,<-D];exact h4) (by rw [J];exact ⟨_,U,q⟩)
 ·have J:(k+(z.toArray.size:Int)).toNat=j:=by
   rw [seqIndex_neg (by omega) h3] at h1
   rw [zC,<-D]
   exact ya h1
  exact PySem.W.ki_setBack B (by omega) (by rw [zC,<-D];exact h3) (by omega) (by rw [J];exact ⟨_,U,q⟩)
theorem vY (lo hi:Option Int) (n:Nat):(sliceBounds lo hi none n).1=((HT.Ai n 0 lo:Nat):Int)/\(sliceBounds lo hi none n).2.1=((HT.Ai n n hi:Nat):Int)/\(sliceBounds lo hi none n).2.2=1:=by
 refine ⟨?_,?_,rfl⟩
 ·cases lo with
  | none=>simp [sliceBounds,HT.Ai]
  | some i=>
   simp only [sliceBounds,HT.Ai,Option.getD_none,show (1:Int) > 0 by decide,if_true]
   by_cases h:i<0
   ·simp only [h,if_true]<;>omega
   ·simp only [h,if_false]<;>omega
 ·cases hi with
  | none=>simp [sliceBounds,HT.Ai]
  | some i=>
   simp only [sliceBounds,HT.Ai,Option.getD_none,show (1:Int) > 0 by decide,if_true]
   by_cases h:i<0
   ·simp only [h,if_true]<;>omega
   ·simp only [h,if_false]<;>omega
theorem uI (n:List Value) (lo hi:Option Int):slicePick n.toArray lo hi none=((n.drop (HT.Ai n.length 0 lo)).take (HT.Ai n.length n.length hi - HT.Ai n.length 0 lo)).toArray:=by
 obtain ⟨h1,h2,h3⟩:=vY lo hi n.toArray.size
 unfold slicePick
 rw [h1,h2,h3]
 simp only [sliceRange_one,pick_run,zC]<;>rfl
def Z1 (K:PySem.W.Frag):V->Option Int->Option Int->Hp->VK->Prop:=λx lo hi H Q=>∃a xs,x=.ref a/\iV K H a xs/\∀p,H p=none->Q (.ref p) (upd H p (.lst (Io xs lo hi)))
theorem Q4:SlR X (Z1 X.K):=by
 intro pins s σ H x v vl Z lo hi sl Q I B Y pl D h
 obtain ⟨a,xs,rfl,U,q⟩:=h
 cases B
 obtain ⟨J,r,z,O⟩:=I.list U
 have n:=r.length
 refine ⟨"list",_,slot_list_getitem.lookup,z.isList.typeIs,?_⟩
 refine wpAny_getItem_list_slice z.isList Y pl D .none (by simp) ?_ (by rw [zC]<;>omega)
 rw [uI,<-n]
 refine ⟨.ref s.heap.objs.size,_,I.laid (t':=s.toks) (o:=.lst (Io xs lo hi)) (λb ob q=>zu _ q) (zx _) ?_,rfl,q _ (I.hok.fresh (zx _))⟩
 exact ⟨zY (Be xs lo hi) O,_,0,(r.drop (HT.Ai xs.length 0 lo)).take (HT.Ai xs.length xs.length hi - HT.Ai xs.length 0 lo),zz _ rfl⟩
theorem vZ:g8 X (compareOp .NotIn) (λx y H Q=>∃i j,x=.str i/\y=.str j/\Q (.bl (!(!(Builtin.Str.occurrences j i 0 j.length 1).isEmpty))) H):=by
 intro pins s σ H x y v u Q I z n h
 obtain ⟨i,j,rfl,rfl,q⟩:=h
 obtain ⟨t,rfl⟩:=z
 obtain ⟨B,rfl⟩:=n
 exact notIn_str ⟨.bl _,H,I,rfl,q⟩
theorem v5:g_ X (.builtin "len") (λxs H Q=>∃p ys,xs=[.ref p]/\(iV X.K H p ys\/Dm X.K H p ys)/\Q (.int ys.length) H):=by
 intro pins s σ H xs U Q I r h
 obtain ⟨p,ys,rfl,z,q⟩:=h
 obtain ⟨u,rfl,J⟩:=vals1 r
 cases J
 have Y:=lV
 rcases z with z|z
 ·obtain ⟨D,B,pl,O⟩:=I.list z
  have n:=B.length
  exact Calls.call_len_list pl.isList (by simp only [zC]<;>omega) ⟨.int ys.length,H,I.tok _,⟨s.toks+1,by rw [zC,n]⟩,q⟩
 ·obtain ⟨D,B,pl,O⟩:=I.tuple z
  have n:=B.length
  exact len_tuple pl (by simp only [zC]<;>omega) ⟨.int ys.length,H,I.tok _,⟨s.toks+1,by rw [zC,n]⟩,q⟩
theorem v8:g_ X (.builtin "len") (λxs H Q=>∃z,xs=[.str z]/\z.length<=sizeLine/\Q (.int z.length) H):=by
 intro pins s σ H xs n Q I r h
 obtain ⟨z,rfl,B,q⟩:=h
 obtain ⟨u,rfl,t,rfl⟩:=vals1 r
 have D:=lV
 exact len_str (by omega) ⟨.int z.length,H,I.tok _,⟨_,rfl⟩,q⟩
def Zd (K:PySem.W.Frag) (T:String) (x:V) (H:Hp):Prop:=match x with
 | .str _=>T="str"
 | .int _=>T="int"
 | .ref p=>(T="list"/\∃xs,iV K H p xs)\/(T="tuple"/\∃o,K.lookup p=some o/\o.cls=.type "tuple"/\o.dict=none)\/(T="dict"/\∃n,H p=some (.dK n))
 | _=>False
theorem Kg {B:List (Addr × Obj)} {s:Shared} (I:Inv X B σ H s) (r:RelV x v) (ty:Zd X.K T x H) :
  s.TypeIs v T/\∀a,v=.ref a->∃J,s.heap.get? a=some J/\J.dict=none:=by
 cases x with
 | str z=>
  obtain ⟨t,rfl⟩:=r
  cases (show T="str" from ty)
  exact ⟨typeIs_str s z t,λ_ e=>nomatch e⟩
 | int i=>
  obtain ⟨t,rfl⟩:=r
  cases (show T="int" from ty)
  exact ⟨typeIs_int s i t,λ_ e=>nomatch e⟩
 | ref p=>
  cases r
  rcases ty with ⟨rfl,xs,Y⟩|⟨rfl,o,D,Z,hd⟩|⟨rfl,O,D⟩
  ·obtain ⟨U,_,pl,_⟩:=I.list Y
   refine ⟨pl.isList.typeIs,λa e=>?_⟩
   cases e
   obtain ⟨o,n,e,c,hd,_⟩:=pl
   exact ⟨o,e,hd⟩
  ·refine ⟨⟨o,I.rQ p o D,Z⟩,λa e=>?_⟩
   cases e
   exact ⟨o,I.rQ _ o D,hd⟩
  ·obtain ⟨_,_,_,_,o,_,_,e,ex,_⟩:=I.hok p _ D
   exact ⟨⟨o,e,ex.1⟩,λa e2=>by cases e2;exact ⟨o,e,ex.2.1⟩⟩
 | _=>exact False.elim ty
def acY (K:PySem.W.Frag) (T:String) (r:V->List V->Hp->VK->Prop) (n:TE):TE:=λσ H Q=>n σ H λx H1=>Zd K T x H1/\r x [] H1 Q
def tBM (K:PySem.W.Frag) (T:String) (r:V->List V->Hp->VK->Prop) (n:TE) (t:TA):TE:=λσ H Q=>n σ H λx H1=>Zd K T x H1/\t σ H1 λxs H2=>r x xs H2 Q
variable {o e:Expr} {es:List Expr} {to:TE} {t:TA} {name:Str} {apos cpos:Pos} {T id:String} {r:V->List V->Hp->VK->Prop}
theorem Kh (Y:PlainAttrs T) (slot:Slot T name id) (B:typeOf (.builtin id)=pure (.type "method_descriptor")) (hm:Uq X id r) (Z:PE X o to)
  (z:attributeBase o name X.env (eval o X.env)=eval o X.env:=by rfl) (n:(apos.endLine == cpos.line)=true:=by rfl):PE X (.Call (.Attribute o name apos) [] [] cpos) (acY X.K T r to):=by
 intro pins s σ H Q I h
 refine wpAny_Call_method0_late z n (bu (Z pins s σ H _ I h) λv U O=>?_)
 obtain ⟨x,H1,J,D,ty,q1⟩:=O
 obtain ⟨h1,h2⟩:=Kg J D ty
 exact ⟨T,id,Y,slot,B,h1,h2,Calls.callWith_builtin rfl (PySem.evalArgs_none (hm pins U σ H1 x [] v [] Q J D .nil q1))⟩
theorem Gk (pa:PlainAttrs T) (slot:Slot T name id) (O:typeOf (.builtin id)=pure (.type "method_descriptor")) (hm:Uq X id r) (ho:PE X o to) (ha:PA X (e::es) t)
  (B:attributeBase o name X.env (eval o X.env)=eval o X.env:=by rfl)
  (D:((backTo cpos (starEach (e::es) X.env)).all (λx=>!x.1) && (backToKw cpos (keywordEach [] X.env)).all (λx=>x.1.isSome)
   && decide ((e::es).length+([]:List Keyword).length+(if ([]:List Keyword).isEmpty then 0 else 1)<30))=true:=by rfl)
  (z:(apos.endLine == cpos.line)=true:=by rfl) (hs:starEach (e::es) X.env=(false,eval e X.env)::starEach es X.env:=by rfl) (n:(backTo cpos (starEach es X.env)).any (·.1)=false:=by rfl) :
  PE X (.Call (.Attribute o name apos) (e::es) [] cpos) (tBM X.K T r to t):=by
 intro pins s σ H Q I h
 refine wpAny_Call_method_late B D z rfl (bu (ho pins s σ H _ I h) λv s1 J=>?_)
 obtain ⟨x,H1,Y,U,ty,q1⟩:=J
 obtain ⟨h1,h2⟩:=Kg Y U ty
 refine ⟨T,id,pa,slot,O,h1,h2,?_⟩
 have hA:=ha cpos pins s1 σ H1 _ Y q1
 rw [hs] at hA ⊢
 refine Calls.callWith_builtin (by show (false || (backTo cpos (starEach es X.env)).any (·.1))=false;rw [n]<;>rfl) (Calls.evalArgs_plain ?_)
 exact bu hA λZ s2 J=>by obtain ⟨vs,H2,I2,r2,q2⟩:=J;exact hm pins s2 σ H2 x vs v Z Q I2 U r2 q2
/- xs.append(e),list.index on a module's tuple .. are Uq facts of 06m -/
end
def MtM (X:Cx) (n:String) (r:V->List V->Hp->VK->Prop):Prop:=
 ∀(pins:List (Addr × Obj)) (s:Shared) (σ:St) (H:Hp) (x:V) (xs:List V) (v:Value) (us:List Value) (Q:VK),Inv X pins σ H s->RelV x v->Vals xs us->r x xs H Q->
  wpAny (model X.prog X.w) X.A (call (.builtin n) (v::us)) (EP X pins σ Q) X.xe s
theorem Vals.one:∀{x:V} {n:List Value},Vals [x] n->∃u,n=[u]/\RelV x u
 | _,_,.cons r .nil=>⟨_,rfl,r⟩
theorem Vals.zero:∀{n:List Value},Vals [] n->n=[]
 | _,.nil=>rfl
theorem Vals.dropLast {xs:List V} {us:List Value} (h:Vals xs us):Vals xs.dropLast us.dropLast:=by
 induction h with
 | nil=>exact .nil
 | cons r t ih=>
  cases t with
  | nil=>exact .nil
  | cons q t'=>exact .cons r ih
theorem Vals.eraseIdx:∀{xs:List V} {n:List Value} (i:Nat),Vals xs n->Vals (xs.eraseIdx i) (n.eraseIdx i)
 | _,_,_,.nil=>.nil
 | _,_,0,.cons _ t=>t
 | _,_,i+1,.cons r t=>.cons r (Vals.eraseIdx i t)
theorem Vals.reverse {xs:List V} {us:List Value} (h:Vals xs us):Vals xs.reverse us.reverse:=by
 induction h with
 | nil=>exact .nil
 | cons r t ih=>rw [yi,yi];exact Vals.append ih (.cons r .nil)
theorem Vals.rep (h:Vals xs us):∀k:Nat,Vals (List.replicate k xs).flatten (List.replicate k us).flatten
 | 0=>.nil
 | k+1=>by
  rw [zM,zM,yF,yF]
  exact Vals.append h (Vals.rep h k)
theorem DN {α:Type} (l:List α):l.eraseIdx (l.length - 1)=l.dropLast:=by
 induction l with
 | nil=>rfl
 | cons a r ih=>
  cases r with
  | nil=>rfl
  | cons b r=>
   have e:(a::b::r).length - 1=((b::r).length - 1)+1:=by
    have h1:(a::b::r).length=r.length+2:=rfl
    have h2:(b::r).length=r.length+1:=rfl
    omega
   rw [e,List.eraseIdx_cons_succ,ih]
   all_goals rfl
theorem foldl_rep (n:List Value):∀(k:Nat) (z:List Value),
  List.foldl (λD B=>D++B) z.toArray (List.replicate k n.toArray)=(z++(List.replicate k n).flatten).toArray
 | 0,z=>by simp
 | k+1,z=>by
  have e:z.toArray++n.toArray=(z++n).toArray:=by simp
  have e2:(z++n)++(List.replicate k n).flatten=z++(List.replicate (k+1) n).flatten:=by
   rw [zM,yF,xw]
  rw [<-e2,<-foldl_rep n k (z++n),<-e,zM,List.foldl_cons]
section
variable {X:Cx} {pins:List (Addr × Obj)} {σ:St} {H:Hp} {s:Shared} {l b:Addr} {xs ys zs:List V}
theorem Inv.Q5 {z its':List Value} (I:Inv X pins σ H s) (U:H l=some (.lst xs))
  (e:s.heap.get? l=some { cls:=.type "list",data:=.seq z.toArray n }) (hf:f z.toArray=its'.toArray) (D:Vals ys its') (B:ys.length<=sizeLine) :
  Inv X pins σ (upd H l (.lst ys)) { s with heap:=s.heap.update l (Obj.mapSeq f),toks:=t' }:=by
 have q:=PySem.IsL.update e f
 rw [hf] at q
 refine I.write (x:=l) (e:=l) (by rw [U];exact trivial) (.inl rfl) (λY u O J=>(yN s.heap (Obj.mapSeq f) (Ne.symm O)).trans J) ⟨_,q⟩ ?_
 exact ⟨B,its',_,D,q⟩
theorem Inv.Z2 {n:List Value} (I:Inv X pins σ H s) (B:Vals ys n) (z:ys.length<=sizeLine) :
  Inv X pins σ (upd H s.heap.objs.size (.lst ys)) { s with heap:=s.heap.push { cls:=.type "list",data:=.seq n.toArray },toks:=t' }:=
 I.laid (λ_ _ q=>zu _ q) (zx _) ⟨z,n,0,B,zz _ rfl⟩
theorem Inv.fresh (I:Inv X pins σ H s):H s.heap.objs.size=none:=I.hok.fresh (zx _)
theorem Inv.Bg (I:Inv X pins σ H s) (D:H l=some (.lst xs)):xs.length<=sizeLine/\∃(B:List Value) (n:Nat),Vals xs B/\xs.length=B.length/\s.heap.get? l=some { cls:=.type "list",data:=.seq B.toArray n }:=by
 obtain ⟨z,B,n,r,e⟩:=I.hok l _ D
 exact ⟨z,B,n,r,r.length,e⟩
theorem Bh (h:n<=sizeLine):Builtin.List.listTooLong n=false:=by
 unfold Builtin.List.listTooLong
 exact zO (by omega)
end
section
variable {X:Cx}
def Q6:V->List V->Hp->VK->Prop:=λx vs H Q=>∃l xs y,x=.ref l/\vs=[y]/\H l=some (.lst xs)/\xs.length<sizeLine/\Q .non (upd H l (.lst (xs++[y])))
theorem Ip:MtM X "list.append" Q6:=by
 intro pins s σ H x vs v Y Q I J O h
 obtain ⟨l,xs,y,rfl,rfl,D,Z,q⟩:=h
 cases J
 obtain ⟨u,rfl,U⟩:=O.one
 obtain ⟨z,B,n,r,hl,e⟩:=I.Bg D
 refine x9 F.slot_list_append ⟨_,e,rfl⟩ F.entry_list_append (F.args_list_append_2 _ _) (PySem.list_append l B.toArray n u (by rw [zC];omega)) ⟨e,?_⟩
 refine ⟨.non,_,I.Q5 (its':=B++[u]) D e (by simp) (r.append (.cons U .nil)) ?_,rfl,q⟩
 rw [zj,yx]
 omega
def Q7:V->List V->Hp->VK->Prop:=λx vs H Q=>∃l b xs zs,x=.ref l/\vs=[.ref b]/\H l=some (.lst xs)/\H b=some (.lst zs)/\xs.length+zs.length<=sizeLine/\Q .non (upd H l (.lst (xs++zs)))
theorem Ze:MtM X "list.extend" Q7:=by
 intro pins s σ H x vs v us Q I Y Z h
 obtain ⟨l,b,xs,zs,rfl,rfl,U,hB,hz,q⟩:=h
 cases Y
 obtain ⟨u,rfl,ru⟩:=Z.one
 cases ru
 obtain ⟨z,D,n,r,hl,e⟩:=I.Bg U
 obtain ⟨z2,B,n2,r2,hl2,e2⟩:=I.Bg hB
 have O:D.toArray.size+B.toArray.size<=sizeLine:=by rw [zC,zC];omega
 have J:¬(!D.toArray.isEmpty && Builtin.List.listTooLong (D.toArray.size+B.toArray.size))=true:=by
  rw [Bh O,Bool.and_false]
  exact y9
 refine x9 F.slot_list_extend ⟨_,e,rfl⟩ F.entry_list_extend (F.args_list_extend_2 _ _)
  (AutoSeq1.list_extend_list_list_0 l D.toArray n b B.toArray n2 J (by rw [zC];omega) (by omega)) ⟨e,e2,?_⟩
 refine ⟨.non,_,I.Q5 (its':=D++B) U e (by simp) (r.append r2) ?_,rfl,q⟩
 rw [zj]
 omega
def acZ:V->List V->Hp->VK->Prop:=λx vs H Q=>∃l xs y,x=.ref l/\vs=[]/\H l=some (.lst xs)/\xs[xs.length - 1]? = some y/\Q y (upd H l (.lst xs.dropLast))
theorem ac0:MtM X "list.pop" acZ:=by
 intro pins s σ H x vs v us Q I U Y h
 obtain ⟨l,xs,y,rfl,rfl,O,hy,q⟩:=h
 cases U
 have J:=Y.zero
 subst J
 obtain ⟨z,B,n,r,hl,e⟩:=I.Bg O
 obtain ⟨u,hu,Z⟩:=r.get hy
 have D:B.toArray[B.toArray.size - 1]? = some u:=by
  show B.toArray[B.length - 1]? = some u
  rw [<-Array.getElem?_toList,<-hl]
  exact hu
 refine x9 F.slot_list_pop ⟨_,e,rfl⟩ F.entry_list_pop (F.args_list_pop_1 _) (MeetsSeq.list_pop_last l B.toArray n u D (by rw [zC];omega)) ⟨e,?_⟩
 refine ⟨y,_,I.Q5 (its':=B.dropLast) O e ?_ r.dropLast ?_,Z,q⟩
 ·show B.toArray.eraseIdxIfInBounds (B.toArray.size - 1)=B.dropLast.toArray
  rw [zC,List.eraseIdxIfInBounds_toArray,DN]
 ·rw [List.length_dropLast]
  omega
def Km:V->List V->Hp->VK->Prop:=λx vs H Q=>∃l xs,x=.ref l/\vs=[]/\H l=some (.lst xs)/\Q .non (upd H l (.lst xs.reverse))
theorem DP:MtM X "list.reverse" Km:=by
 intro pins s σ H x vs v Y Q I O U h
 obtain ⟨l,xs,rfl,rfl,J,q⟩:=h
 cases O
 have D:=U.zero
 subst D
 obtain ⟨z,B,n,r,Z,e⟩:=I.Bg J
 refine x9 F.slot_list_reverse ⟨_,e,rfl⟩ F.entry_list_reverse (F.args_list_reverse_1 _) (AutoSeq1.list_reverse_list_0 l B.toArray n (by rw [zC];omega)) ⟨e,?_⟩
 refine ⟨.non,_,I.Q5 (its':=B.reverse) J e (by simp) r.reverse ?_,rfl,q⟩
 rw [yX]
 omega
def ac1:R2:=λx y H Q=>∃l b xs zs,x=.ref l/\y=.ref b/\H l=some (.lst xs)/\H b=some (.lst zs)/\xs.length+zs.length<=sizeLine/\∀p,H p=none->Q (.ref p) (upd H p (.lst (xs++zs)))
theorem Wb:g8 X (binaryOp .Add) ac1:=by
 intro pins s σ H x y v u Q I O J h
 obtain ⟨l,b,xs,zs,rfl,rfl,Z,hB,hz,q⟩:=h
 cases O
 cases J
 obtain ⟨z,D,n,r,hl,e⟩:=I.Bg Z
 obtain ⟨z2,B,n2,U,Y,e2⟩:=I.Bg hB
 refine PySem.P.add_list e e2 ?_ (by rw [zC,zC];omega)
 have ea:D.toArray++B.toArray=(D++B).toArray:=by simp
 rw [ea]
 exact ⟨.ref _,_,I.Z2 (t':=s.toks) (r.append U) (by rw [zj];omega),rfl,q _ I.fresh⟩
def ac2:R2:=λx y H Q=>∃l k xs,x=.ref l/\y=.int k/\H l=some (.lst xs)/\-(2 ^ 63)<=k/\k<2 ^ 63/\xs.length * k.toNat<=sizeLine /\
 ∀p,H p=none->Q (.ref p) (upd H p (.lst (List.replicate k.toNat xs).flatten))
theorem len_rep {α:Type} (xs:List α) (k:Nat):(List.replicate k xs).flatten.length=k * xs.length:=by
 induction k with
 | zero=>simp
 | succ k ih=>rw [zM,yF,zj,ih,Nat.succ_mul,Nat.add_comm]
theorem Wc:g8 X (binaryOp .Mult) ac2:=by
 intro pins s σ H x y v u Q I rx ry h
 obtain ⟨l,k,xs,rfl,rfl,hH,h1,h2,hz,q⟩:=h
 cases rx
 obtain ⟨t,rfl⟩:=ry
 obtain ⟨z,B,n,r,hl,e⟩:=I.Bg hH
 have O:B.toArray.size * k.toNat<=sizeLine:=by rw [zC,<-hl];exact hz
 have Z:¬B.toArray.size * k.toNat > (2 ^ 63 - 1) / 8:=by
  have:(sizeLine:Nat)<=(2 ^ 63 - 1) / 8:=by decide
  omega
 have Y:¬(!Builtin.List.listFitsIndex k)=true:=by
  rw [fitsIndex_both h1 h2]
  exact y9
 have D:¬Builtin.List.listTooLong (B.toArray.size * k.toNat)=true:=by
  rw [Bh O]
  exact y9
 have J:List.foldl (λx1 x2=>x1++x2) #[] (List.replicate (if B.toArray.isEmpty=true then 0 else k.toNat) B.toArray)=(List.replicate k.toNat B).flatten.toArray:=by
  have f0:∀m:Nat,List.foldl (λx1 x2=>x1++x2) #[] (List.replicate m B.toArray)=(List.replicate m B).flatten.toArray:=λm=>by
   have:=foldl_rep B m []
   rw [xC] at this
   exact this
  rw [f0]
  cases B with
  | nil=>simp
  | cons a r'=>rw [zh (by simp)]
 refine wpAny_binaryOp_repeat_ref (T:="list") (U:="int") (by decide) ⟨_,e,rfl⟩ (λs'=>typeIs_int s' k t) noFill_list_mul F.fills_int_mul F.slot_int_rmul repeat_list F.slot_int_index.lookup
  (x9 F.slot_int_rmul (typeIs_int s k t) F.entry_int_rmul (F.args_int_rmul_2 _ _) (int___rmul___int_list k t l B.toArray n)
   ⟨e,rfl,⟨_,e,rfl⟩,x9 F.slot_list_mul ⟨_,e,rfl⟩ F.entry_list_mul (F.args_list_mul_2 _ _) (AutoListH.list___mul___list_int_3 l B.toArray n k t Y Z D) ⟨e,?_⟩⟩)
 rw [J]
 exact ⟨.ref _,_,I.Z2 (t':=s.toks) (r.rep k.toNat) (by rw [len_rep,Nat.mul_comm];exact hz),rfl,q _ I.fresh⟩
end
end L2
namespace Att
open PySem PySem.W PySem.Calls PyProof.Rows
theorem qK:∀(ns:List Int) (vs:List Value),WellAll P h vs (ns.map WData.int)->IntsAre vs ns:=by
 intro ns
 induction ns with
 | nil=>
  intro vs w
  rw [List.map_nil] at w
  cases w
  exact .nil
 | cons n ns ih=>
  intro vs w
  rw [yb] at w
  cases w with
  | cons a b=>
   cases a
   exact .cons _ _ (ih _ b)
theorem Ir {l:OpenLaw} (U:l.most=some n) {h:Heap}
  (z:l.row.toRowW.claim.pre args=true) (I:WellAll P h vals args) :
  ∃a vs ns,vals=[Value.ref a]/\args=[WData.list (ns.map WData.int)]/\h.get? a=some { cls:=.type "list",data:=.seq vs.toArray }/\IntsAre vs ns/\ns.length<=n:=by
 have J:WShape.hasAll [] args [.list .int]=true:=(pre_splitW z).1
 have O:l.pre.holds [] { args:=args }=true:=(pre_splitW z).2
 obtain ⟨d,r,rfl,h1,h2⟩:=hasAllW_cons J
 obtain rfl:=hasAllW_nil h2
 obtain ⟨xs,rfl,h3⟩:=hasW_list h1
 obtain ⟨ns,rfl⟩:=items_int h3
 have B:ns.length<=n:=by
  unfold OpenLaw.pre at O
  have h4:(WTm.not (.lt (.lit (.int (n:Int))) (.len (.arg 0)))).holds [] { args:=[.list (ns.map .int)] }=true:=by
   have h4:=(holds_andW O).1
   rw [U] at h4
   exact h4
  have D:=condW_of h4 (w_not (w_lt w_lit (w_len_list (w_arg rfl))))
  rw [z9] at D
  refine xz λq=>?_
  have q':(n:Int)<((ns.length:Nat):Int):=by omega
  first
   | (rw [zZ q'] at D;exact absurd D (by decide))
   | (simp at D;omega)
 cases I with
 | cons w1 w2=>
  cases w2
  cases w1 with
  | list ho hall=>exact ⟨_,_,ns,rfl,rfl,ho,qK ns _ hall,B⟩
theorem Iu (l:OpenLaw) (args:List WData):l.row.toRowW.claim.post args (.bool true) args=true:=
 postW_of (r:=l.row.toRowW) (X:=(true == true))
  (show WShape.has [] (.bool true) .bool=true by first|rfl|decide|simp [WShape.has,WShape.arms,WShape.armsAll])
  (show (WTm.eq .res (.lit (.bool true))).value [] { args:=args,res:=some (.bool true),after:=args }=some (.bool (true == true)) from w_eq_bool (w_res rfl) w_lit) rfl
theorem Bj {l:OpenLaw} {d:DefRec}
  (hn:l.most=some n) (hdf:d.params.defaults=[])
  (call:∀(w:World) (s₀ z:Shared) (mg mb:Str->Option Value) (U:Addr) (o:Obj) (Z cd D:Value) (a:Addr) (vs:List Value) (ns:List Int),
   Ground q loose [] XP w s₀ mg mb z.heap->YP w z.heap->
   z.heap.get? U=some o->o.data=.func (docDef d.name d.params d.body d.scope Z cd D)->z.heap.CodeRec cd d.name->mg d.name=some (.ref U)->
   z.heap.get? a=some { cls:=.type "list",data:=.seq vs.toArray }->IntsAre vs ns->ns.length<=n->z.gens=#[]->
   codeAny (model l.prog w) callerA (.call (.ref U) ⟨[.ref a],[]⟩) (λr s'=>r=.ok (.ret (.bool true))/\OldK z.heap s'.heap/\s'.os=z.os/\AllBare s'.gens) z) :
  WalkO q loose XP YP l.row.toRowW d [] (λf vs=>PySem.call f vs):=by
 intro w s₀ z mg mb G Y U o Z cd D dV kV ho hd hcd hD hmg hg args vals as I hlay hrd hwl hlo
 obtain rfl:dV=.none:=Dflts.none hD hdf
 obtain rfl:kV=.none:=Dflts.noKw hD
 obtain ⟨a,vs,ns,rfl,rfl,J,B,O⟩:=Ir hn I hwl
 refine enter_call (codeAny_mono (call w s₀ z mg mb U o Z cd D a vs ns G Y ho (fd_plain hd) hcd hmg J B O hg) λr s' hq=>?_)
 obtain ⟨rfl,h2,h3,h4⟩:=hq
 exact ⟨.inl ⟨.bool true,.bool true,[],rfl,λ_=>rfl,.bool true,Iu l _,λ_=>⟨List.Pairwise.nil,λ_ hm=>(nomatch hm)⟩⟩,h2,h3,h4⟩
end Att
namespace L2
open PySem PySem.Spec PyProof.Rows
theorem uX:∀{vs:List Value} {ns:List Int},IntsAre vs ns->Vals (ns.map V.int) vs
 | _,_,.nil=>.nil
 | _,_,.cons n t h=>.cons ⟨t,rfl⟩ (uX h)
def Only (H:Hp):Prop:=∀b,H b=none\/∃o xs,H b=some (.Dj o (.lst xs))
theorem Ko {P:Program} {w:World} {K:PySem.W.Frag} {mg mb:Str->Option Value} {CX:Ik} {k:Nat} {fa a:Addr} {fd:FuncData} {x:Str} {sp:Sp} {s₁:Shared} {vs:List Value} {ns:List Int}
  (KX:K.In s₁.heap) (hns:s₁.heap.Ns mainGlobals mg) (D:s₁.heap.Ns builtinsNs mb) (hbb:∀x:Str,x≠"__name__"->mb x=bootBuiltins x) (hlim:s₁.heap.NoLimit) (hg:s₁.gens=#[])
  (ha:s₁.heap.get? a=some { cls:=.type "list",data:=.seq vs.toArray }) (hi:IntsAre vs ns) (hl:ns.length<=sizeLine) (hr:bO k callerA)
  (F:∀base:Heap,K.In base->base.Ns mainGlobals mg->bV P w K mg base CX k fa fd [x] sp) (O:∀(s:Shared) (u:Value),BindsTo s fd ⟨[u],[]⟩ [(x,u)])
  (hsp:∀H:Hp,Only H->iV K H a (ns.map V.int)->sp [.ref a] H (λv _=>v=.bl true) λ_ _ _=>False)
  (hCX:∀H e s',CX [] H s₁ (λ_ _ _=>False) e s'->False) :
  codeAny (model P w) callerA (.call (.ref fa) ⟨[.ref a],[]⟩) (λr s'=>r=.ok (.ret (.bool true))/\OldK s₁.heap s'.heap/\s'.os=s₁.os/\AllBare s'.gens) s₁:=by
 have rv:=uX hi
 have Y:=hi.length
 -- from an abstract heap in which nothing but the script may be tracked
 have J:∀H:Hp,Only H->iV K H a (ns.map V.int)->jG P w H s₁.heap->(∀b,H b≠none->b=a)->(H a≠none->K.lookup a=none)->
   codeAny (model P w) callerA (.call (.ref fa) ⟨[.ref a],[]⟩) (λr s'=>r=.ok (.ret (.bool true))/\OldK s₁.heap s'.heap/\s'.os=s₁.os/\AllBare s'.gens) s₁:=by
  intro H hO hS hok hA hK
  have B:∀{b:Addr} {o:Obj},s₁.heap.get? b=some o->H b=none->(vO s₁.heap H).get? b=some o:=λe n=>JN e n
  have noA:∀{b:Addr} {o:Obj} {es:Array DictEntry} {ep:Nat},s₁.heap.get? b=some o->o.data=.dict es ep->H b=none:=λ{b o es ep} e d=>by
   cases q:H b with
   | none=>rfl
   | some u=>
    have e':b=a:=hA b (by rw [q];simp)
    subst e'
    rw [ha] at e;cases e
    have d':Data.seq vs.toArray _=Data.dict es ep:=d
    cases d'
  have I:∀{b:Addr} {m:Str->Option Value},s₁.heap.Ns b m->(vO s₁.heap H).Ns b m:=λ{b m} ⟨o,es,ep,e,d,r⟩=>⟨o,es,ep,B e (noA e d),d,r⟩
  have hKb:K.In (vO s₁.heap H):=λb o e=>B (KX b o e) (by
   cases q:H b with
   | none=>rfl
   | some u=>
    have e':b=a:=hA b (by rw [q];simp)
    subst e'
    rw [hK (by rw [q];simp)] at e;cases e)
  have hM:Mod K mg (vO s₁.heap H):=⟨hKb,I hns,⟨mb,I D,hbb⟩,let ⟨mc,h1,h2⟩:=hlim;⟨mc,I h1,h2⟩⟩
  have e0:Dz P w K mg (vO s₁.heap H) callerA [] s₁ H:=⟨rfl,hM,λb o e=>Qp e,Nat.le_of_eq (HS _ _),trivial,λb D=>absurd (show b∈([]:List Addr) from D) (by simp),hok,.of_eq hg⟩
  refine codeAny_mono ((F _ hKb (I hns)).run callerA [] s₁ H ⟨[.ref a],[]⟩ [.ref a] [.ref a] _ _ hr e0 (O s₁ (.ref a)) (.cons rfl .nil) (hsp H hO hS)) λr s' h=>?_
  cases r with
  | error e=>exact (hCX H e s' h).elim
  | ok fl=>
   cases fl with
   | next=>exact False.elim h
   | brk=>exact False.elim h
   | cont=>exact False.elim h
   | ret u=>
    obtain ⟨v,H',os,bare,un,Z,r',q⟩:=h
    have q':v=.bl true:=q
    subst q'
    obtain rfl:u=Value.bool true:=r'
    refine ⟨rfl,OldK.of_keep λb o e=>?_,os,bare⟩
    cases q:H b with
    | none=>exact un.keep b o e q (by intro z;exact absurd (show b∈([]:List Addr) from z) (by simp)) (by simp)
    | some u=>
     rcases hO b with z|⟨ob,xs,z⟩
     ·rw [q] at z;cases z
     ·have z2:=un.o6 b ob _ z
      obtain ⟨e1,_⟩:=hok b _ z
      obtain ⟨e2,_⟩:=Z b _ z2
      rw [e] at e1;cases e1
      exact e2
 cases hk:K.lookup a with
 | some o=>
  -- the script is one of the module's own objects
  have e:=KX a o hk
  rw [ha] at e
  cases e
  refine J (λ_=>none) (λ_=>.inl rfl) (.inr ⟨_,vs.toArray,_,hk,rfl,rfl,rfl,by rw [zC,Y];exact hl,by simpa using rv⟩) (λb u z=>by have U:(none:Option HO)=some u:=z;cases U) (λb z=>absurd rfl z) λz=>absurd rfl z
 | none=>
  refine J (λb=>if b=a then some (.Dj { cls:=.type "list",data:=.seq vs.toArray } (.lst (ns.map V.int))) else none) (λb=>?_) (.inl (.inr ⟨{ cls:=.type "list",data:=.seq vs.toArray },zo rfl⟩)) (λb u z=>?_) (λb z=>?_) λ_=>hk
  ·by_cases D:b=a
   ·exact .inr ⟨_,_,zo D⟩
   ·exact .inl (zh D)
  ·by_cases D:b=a
   ·have U:=(zo D).symm.trans z
    cases U
    subst D
    exact ⟨ha,by rw [z9];exact hl,vs,_,rv,ha⟩
   ·have U:=(zh D).symm.trans z
    cases U
  ·by_cases D:b=a
   ·exact D
   ·exact absurd (zh D) z
theorem Gm {l:PySem.W.OpenLaw} {n k:Nat} {q:Program} {B:List Str} {XP:(Str->Option Value)->Heap->Prop} {YP:World->Heap->Prop} {d:DefRec} {K:Params->PySem.W.Frag} {CX:World->Ik} {sp:World->Sp} {x:Str}
  (hn:l.most=some n) (Z:n<=sizeLine) (hdf:d.params.defaults=[]) (hr:bO k callerA)
  (hY:∀(w:World) (h:Heap),YP w h->(K w.params).In h)
  (F:∀(w:World) (mg:Str->Option Value) (O:Addr) (h:Heap),(K w.params).In h->h.Ns mainGlobals mg->mg d.name=some (.ref O)->
   ∃fd:FuncData,(∀(s:Shared) (u:Value),BindsTo s fd ⟨[u],[]⟩ [(x,u)]) /\
    ∀base:Heap,(K w.params).In base->base.Ns mainGlobals mg->bV l.prog w (K w.params) mg base (CX w) k O fd [x] (sp w))
  (U:∀(w:World) (H:Hp) (a:Addr) (ns:List Int),ns.length<=n->Only H->iV (K w.params) H a (ns.map V.int)->sp w [.ref a] H (λv _=>v=.bl true) λ_ _ _=>False)
  (hCX:∀(w:World) (H:Hp) (s:Shared) (e:Value) (s':Shared),CX w [] H s (λ_ _ _=>False) e s'->False) :
  PySem.W.WalkO q B XP YP l.row.toRowW d [] (λf vs=>PySem.call f vs):=by
 refine Att.Bj hn hdf λw s₀ I mg mb O o pm cd doc a vs ns G Y ho hd hcd hmg J D z hg=>?_
 have KX:=hY w _ Y
 obtain ⟨fd,hb,hF⟩:=F w mg O _ KX G.T.g hmg
 exact Ko KX G.T.g G.T.b G.T.builtins G.T.nolimit hg J D (zY z Z) hr hF hb (λH hO hS=>U w H a ns z hO hS) λH e s'=>hCX w H I e s'
end L2
/- THE LAST THEOREM (shape;LID,My.* are afI):
  My.Adr: a structure of the addresses that your layer names (classes,functions);My.Txt K t: a structure (Prop) of the equations over K;
  My.Wd:{K} {implicit addresses ..} (e1:nsIn K mainGlobals "law"=some (some (.ref f))) (e2:K.lookup f=some ⟨oc,od,.func (fnOf "law" "law" params body scope dV kV doc pm an cdv ct),sl⟩) (e3:codeIn K cdv "law"=true) ..:∃t,My.Txt K t
set_option maxRecDepth 100000 in
set_option maxHeartbeats 0 in
theorem PySem.Challenge.cw_LID_holds : PySem.Challenge.rw_LID.Holds := by
 w_on;o_law;k_head;(case hw=>w_witness2)
 k_fill
 refine L2.Gm (l:=PySem.Challenge.rw_LID) (n:=63) (k:=40) (x:="script") (CX:=λw=>..) (sp:=λ_=>My.ac4) rfl (by decide) rfl ⟨rfl,by decide,by decide⟩ (λw h Y=>PySem.W.kIn_of Y) ?F ?S ?C
 case F=>
  intro w mg fa h KX G hmg
  have T:∃t,My.Txt (L2.KOf KX) t:=by
   dsimp only [L2.KOf]                          -- K must stand as «<heap const> w.params» for k_is
   refine' My.Wd ?e1 ?e2 ?e3 ..
   (case e1=>PySem.W.k_is)                    -- in the order: a name -> its address -> its object -> its parts
   (case e2=>PySem.W.k_is)
   ..
  obtain ⟨t,T⟩:=T
  have e0:=hmg.symm.trans (PySem.W.mg_of KX G T.law)
  cases e0                                       -- fa is the law's own address
  exact ⟨_,λs u=>.of_eq rfl,λbase kb nb=>My.We T kb nb⟩     -- if «.of_eq rfl» comes too early: refine' ⟨_,?b,λbase kb nb=>My.We T kb nb⟩;exact λs u=>.of_eq rfl
 case S=>exact λw H a ns hl hO hS=>..
 case C=>exact ..
(the tactic k_is has no namespace: write k_is) -/
namespace L2
open PySem PySem.Spec PyProof.Rows
def kj (s:Stmt):Arguments:=match s with
 | .FunctionDef _ a _ _ _ _ _ _ _ _=>a
 | _=>{ posonlyargs:=[],args:=[],vararg:=none,kwonlyargs:=[],kw_defaults:=[],kwarg:=none,defaults:=[] }
def dG (s:Stmt):List Stmt:=match s with
 | .FunctionDef _ _ b _ _ _ _ _ _ _=>b
 | _=>[]
def aa (s:Stmt):Scope:=match s with
 | .FunctionDef _ _ _ _ _ _ sc _ _ _=>sc
 | _=>{ kind:=.function,names:=[],isGenerator:=false,isCoroutine:=false }
abbrev m7:Ik:=λ_ _ _ _ _ _=>False
abbrev E0:XK:=λ_ _ _=>False
theorem Bk {X:Cx}:Passes m7 X E0:=λ_ _ _ _ _ _ _ h=>h.elim
structure uE (K:PySem.W.Frag) (x qual:Str) (st:Stmt) (f:Addr) (fd:FuncData):Prop where
 ex:∃(oc:Value) (od:Option Addr) (kV doc pm:Value) (an:Option Addr) (cdv ct:Value) (osl:Array (Option Value)),
  fd=PySem.W.fnOf x qual (kj st) (dG st) (aa st) .none kV doc pm an cdv ct/\K.lookup f=some ⟨oc,od,.func fd,osl⟩/\PySem.W.codeIn K cdv qual=true
 kp:PySem.W.keepIn K (.ref f)=true
section
variable {P:Program} {w:World} {K:PySem.W.Frag} {mg:Str->Option Value} {base:Heap}
theorem uE.ok {x n:Str} {st:Stmt} {f:Addr} {fd:FuncData} {N ps:List Str} {k:Nat} {sp:Sp} (F:uE K x n st f fd) (S:ao N ps (aa st)) (len:∀vs H Q E,sp vs H Q E->vs.length=ps.length)
  (B:∀(z:Value) (A:Around) (outer:List Env) (s:Shared) (H:Hp) (vs:List V) (Q:VK) (E:XK),bO k (A.deeper (envOfC n (aa st) s.heap.objs.size f z))->sp vs H Q E->
   ∃t,gw (fM m7 P w K mg base N n (aa st) f z A outer s H E).Ue (dG st) t/\t { nx:=λ_ H'=>Q .non H',rt:=Q } (start N vs) H):bV P w K mg base m7 (k+1) f fd ps sp:=by
 obtain ⟨oc,Z,kV,U,Y,an,z,ct,J,rfl,lk,I⟩:=F.ex
 refine Uo lk I S len λA outer s H vs Q E O D=>?_
 obtain ⟨t,h,q⟩:=B z A outer s H vs Q E O D
 exact ⟨t,h.Ue,q⟩
theorem uE.binds {x n:Str} {st:Stmt} {f:Addr} {fd:FuncData} {ps:List Str} (F:uE K x n st f fd)
  (h:∀(kV z D:Value) (I:Option Addr) (B ct:Value) (us:List Value),us.length=ps.length->bindArgs (PySem.W.fnOf x n (kj st) (dG st) (aa st) .none kV z D I B ct) ⟨us,[]⟩=pure (ps.zip us)):Binds K fd ps []:=by
 obtain ⟨Y,U,kV,z,D,I,B,ct,J,rfl,lk,O⟩:=F.ex
 exact .all (h kV z D I B ct)
theorem lX {x n:Str} {st:Stmt} {f:Addr} {U:Value} {O J:Option Addr} {D:Array (Option Value)} {kV B I z ct:Value} (l:K.lookup f=some ⟨U,O,.func (PySem.W.fnOf x n (kj st) (dG st) (aa st) .none kV B I J z ct),D⟩)
  (c:PySem.W.codeIn K z n=true) (k:PySem.W.keepIn K (.ref f)=true):uE K x n st f (PySem.W.fnOf x n (kj st) (dG st) (aa st) .none kV B I J z ct):=⟨⟨U,O,kV,B,I,J,z,ct,D,rfl,l,c⟩,k⟩
end
section
variable {X:Cx}
theorem pv (i:Nat) {x:Str} {pos:Pos} (hN:X.N[i]? = some x:=by rfl) (z:Vq X.env.scope x:=by first|exact Or.inl rfl|exact Or.inr (Or.inl rfl)|exact Or.inr (Or.inr rfl)) (hd:(x == ("__debug__":Str))=false:=by decide)
  (n:(x == ("__classdict__":Str))=false:=by decide):PE X (.Name x pos) (An i):=Vs hN z hd n
end
theorem eX {c A B:Prop} [Decidable c] (h1:c->A) (h2:¬c->B):if c then A else B:=by
 by_cases h:c
 ·rw [zo h]
  exact h1 h
 ·rw [zh h]
  exact h2 h
def aP (H n:Hp):Prop:=∀b o,H b=some o->n b=some o
theorem aP.refl (H:Hp):aP H H:=λ_ _ h=>h
theorem aP.trans {H n H2:Hp} (a:aP H n) (b:aP n H2):aP H H2:=λc o h=>b c o (a c o h)
theorem aP.free {H n:Hp} (e:aP H n) {l:Addr} (h:n l=Option.none):H l=Option.none:=by
 cases q:H l with
 | none=>rfl
 | some o=>
  rw [e l o q] at h
  cases h
theorem aP.seq {K:PySem.W.Frag} {H n:Hp} {a:Addr} {xs:List V} (e:aP H n) (h:iV K H a xs):iV K n a xs:=by
 rcases h with (h|⟨o,h⟩)|h
 ·exact .inl (.inl (e _ _ h))
 ·exact .inl (.inr ⟨o,e _ _ h⟩)
 ·exact .inr h
def di (z:List (Str × Addr)):List (Str × NameKind)->List (Str × Addr)->List (Str × Addr)
 | [],cs=>cs
 | (n,k)::r,cs=>di z r (if k == .free then (match z.lookup n with|some c=>(n,c)::cs|none=>cs) else cs)
theorem uJ {B : Scope} {env : Env} (h : ∀ x ∈ B.names, x.2 = .free → (env.cells.lookup x.1).isSome = true) :
    closureFor B env = pure (di env.cells B.names []) := by
  have all : ∀ (z : List (Str × NameKind)) (cs : List (Str × Addr)), (∀ x ∈ z, x.2 = .free → (env.cells.lookup x.1).isSome = true) →
      (do let mut ds := cs
          for (name, kind) in z do
            if kind == .free then ds := (name, ← cellOf env name) :: ds
          return ds : Sem (List (Str × Addr))) = pure (di env.cells z cs) := by
    intro z
    induction z with
    | nil => intro cs _; rfl
    | cons y r ih =>
      intro cs O
      obtain ⟨n, k⟩ := y
      have J := λx Y => O x (zn _ Y)
      simp only [List.forIn_cons]
      cases I : k == NameKind.free with
      | false =>
        have e : di env.cells ((n, k) :: r) cs = di env.cells r cs := by
          show di env.cells r (if k == .free then _ else cs) = _
          rw [I]; rfl
        rw [e, ← ih cs J]
        simp
      | true =>
        have D : k = .free := by simpa using I
        have Z := O (n, k) zt D
        obtain ⟨c, U⟩ := yH.mp Z
        have e : di env.cells ((n, k) :: r) cs = di env.cells r ((n, c) :: cs) := by
          show di env.cells r (if k == .free then (match env.cells.lookup n with | some c => (n, c) :: cs | none => cs) else cs) = _
          rw [I, U]; rfl
        rw [e, ← ih ((n, c) :: cs) J]
        simp [cellOf, U]
  have q := all B.names [] h
  unfold closureFor
  exact q
theorem o9 {z:List (Str × Addr)}:∀{names:List (Str × NameKind)} {cs:List (Str × Addr)} {x:Str} {c:Addr},(di z names cs).lookup x=some c->
  cs.lookup x=some c\/z.lookup x=some c
 | [],_,_,_,h=>.inl h
 | (n,k)::r,cs,x,c,h=>by
  have q:=o9 (names:=r) (x:=x) (c:=c) h
  rcases q with q|q
  ·cases I:k == NameKind.free with
   | false=>rw [I] at q;exact .inl q
   | true=>
    rw [I] at q
    cases D:z.lookup n with
    | none=>rw [D] at q;exact .inl q
    | some d=>
     rw [D] at q
     simp only [if_true,zT] at q
     cases B:x == n with
     | true=>
      rw [B] at q
      have e:x=n:=by simpa using B
      subst e
      rw [D];exact .inr q
     | false=>rw [B] at q;exact .inl q
  ·exact .inr q
theorem sy {z:List (Str × Addr)}:∀{B:List (Str × NameKind)} {cs:List (Str × Addr)} {x:Str} {c:Addr},cs.lookup x=some c->∃d,(di z B cs).lookup x=some d
 | [],_,_,c,h=>⟨c,h⟩
 | (n,k)::r,cs,x,c,h=>by
  show ∃d,(di z r _).lookup x=some d
  have more:∃d,(if k == NameKind.free then (match z.lookup n with|some c=>(n,c)::cs|none=>cs) else cs).lookup x=some d:=by
   cases I:k == NameKind.free with
   | false=>exact ⟨c,h⟩
   | true=>
    cases J:z.lookup n with
    | none=>exact ⟨c,h⟩
    | some d=>
     simp only [if_true,zT]
     cases D:x == n with
     | true=>exact ⟨d,rfl⟩
     | false=>exact ⟨c,h⟩
  obtain ⟨d,hd⟩:=more
  exact sy hd
theorem o_ {z:List (Str × Addr)}:∀{names:List (Str × NameKind)} {cs:List (Str × Addr)} {x:Str},(x,NameKind.free)∈names->(z.lookup x).isSome=true->∃d,(di z names cs).lookup x=some d
 | (n,k)::r,cs,x,B,hs=>by
  rcases zm.mp B with e|B
  ·cases (e)
   obtain ⟨c,D⟩:=yH.mp hs
   show ∃d,(di z r _).lookup _=some d
   refine sy (c:=c) ?_
   simp [D]
  ·exact o_ (names:=r) B hs
def bz (X:Cx) (n:Scope) (N:List Str) (C:Addr) (s:Shared) (H:Hp) (z:List Addr):Cx where
 prog:=X.prog
 w:=X.w
 K:=X.K
 mg:=X.mg
 base:=X.base
 A:=X.A
 N:=N
 s₀:=s
 H₀:=H
 env:=compEnvC n (di X.env.cells n.names []) C X.env
 outer:=X.stack
 stack:=X.stack
 ex:=z
 calm:=true
 fn:=λ_=>false
 pn:=[]
 xe:=λ_ _=>False
structure aU (X:Cx) (scope:Scope) (N:List Str) (k:Nat):Prop where
 kind:scope.kind=.function
 sE:∀y∈scope.names,y.2≠.cell
 nd:N.Nodup
 len:N.length=k+X.N.length
 loc:∀x∈scope.names,x.2=.local->scope.names.lookup x.1=some .local
 free:∀x∈scope.names,x.2=.free->X.env.kindOf x.1=some .cell\/X.env.kindOf x.1=some .free
 own:∀i x,i<k->N[i]? = some x->scope.names.lookup x=some .local
 out:∀i x,N[k+i]? = some x->(scope.names.lookup x).isSome=true->X.N[i]? = some x/\scope.names.lookup x=some .free\/scope.names.lookup x=some .globalImplicit
def ac5:TT:=λ_ H k=>k true H
def pq {α:Type} (ho:α->HO) (len:α->Nat) (I:α) (ta:α->St->Hp->(α->Hp->Prop)->Prop) (k:Nat) (Y:TI) (g:TG) (Z:TT):TE:=λσ H Q=>Y σ H λJ H1=>∃W:Nat->Nat->α->St->Hp->Prop,(∃m,W 0 m I (List.replicate k none++σ) H1) /\
 ∀i m ys z H',W i m ys z H'->
  (J.stop i H'/\∀D,H' D=none->Q (.ref D) (upd H' D (ho ys))) \/
  (J.go i H'/\len ys<sizeLine/\∃N:α->St->Hp->Prop,(∀zs σ' B,N zs σ' B->∃O,O<m/\W (i+1) O zs σ' B) /\
   ∀x H2,J.Ug i H' x H2->g x z H2 λn H3=>Z n H3 λb U=>if b=true then ta ys n U λzs H5=>N zs n H5 else N ys n U)
abbrev Z3 (B:TE) (z:List V) (n:St) (H:Hp) (Q:List V->Hp->Prop):Prop:=B n H λy D=>Q (z++[y]) D
def Bl (k:Nat) (n:TI) (g:TG) (z:TT) (B:TE):TE:=pq HO.lst List.length [] (Z3 B) k n g z
theorem gP {env:Env}:∀{z:List (Str × NameKind)} {x:Str} {k:NameKind},z.lookup x=some k->
  (z.map λ(n,k)=>if (k == NameKind.free && env.scope.kind == .function && env.kindOf n == some .cell) then (n,NameKind.cell) else (n,k)).lookup x
   = some (if (k == NameKind.free && env.scope.kind == .function && env.kindOf x == some .cell) then NameKind.cell else k)
 | [],_,_,h=>by simp at h
 | (n,k)::r,x,k',h=>by
  have I:=@gP env r x k'
  show List.lookup x ((if (k == NameKind.free && env.scope.kind == .function && env.kindOf n == some .cell)=true then (n,NameKind.cell) else (n,k))::_)=_
  cases D:x == n with
  | true=>
   simp only [zT,D] at h
   cases h
   have e:x=n:=by simpa using D
   subst e
   by_cases B:(k == NameKind.free && env.scope.kind == .function && env.kindOf x == some .cell)=true
   ·rw [zo B,zo B];simp [zT]
   ·rw [zh B,zh B];simp [zT]
  | false=>
   simp only [zT,D] at h
   by_cases B:(k == NameKind.free && env.scope.kind == .function && env.kindOf n == some .cell)=true
   ·rw [zo B];simp only [zT,D];exact I h
   ·rw [zh B];simp only [zT,D];exact I h
theorem dO {env:Env}:∀{z:List (Str × NameKind)} {x:Str},z.lookup x=none->
  (z.map λ(n,k)=>if (k == NameKind.free && env.scope.kind == .function && env.kindOf n == some .cell) then (n,NameKind.cell) else (n,k)).lookup x=none
 | [],_,_=>rfl
 | (n,k)::r,x,h=>by
  have D:=@dO env r x
  show List.lookup x ((if (k == NameKind.free && env.scope.kind == .function && env.kindOf n == some .cell)=true then (n,NameKind.cell) else (n,k))::_)=_
  cases B:x == n with
  | true=>
   simp only [zT,B] at h
   cases h
  | false=>
   simp only [zT,B] at h
   by_cases I:(k == NameKind.free && env.scope.kind == .function && env.kindOf n == some .cell)=true
   ·rw [zo I];simp only [zT,B];exact D h
   ·rw [zh I];simp only [zT,B];exact D h
def v9 (X:Cx) (n:List Expr) (t:TT):Prop:=
 ∀(pins:List (Addr × Obj)) (s:Shared) (σ:St) (H:Hp) (Q:Bool->Hp->Prop),Inv X pins σ H s->t σ H Q->
  wpAny (model X.prog X.w) X.A (forIn n true λc r=>if r=true then do let ok <-isTrue c X.env (eval c X.env);pure (ForInStep.yield ok) else pure (ForInStep.yield r)) (TP X pins σ Q) X.xe s
theorem Q8:v9 X [] ac5:=λ_ _ _ H _ I h=>wpAny_tests_nil ⟨H,I,h⟩
theorem Q9 (h:PT X c t):v9 X [c] t:=λpins s σ H Q I n=>wpAny_tests_one (h pins s σ H Q I n)
section
variable {X:Cx} {scope:Scope} {N:List Str} {k:Nat} {pins:List (Addr × Obj)} {σ:St} {H:Hp} {s:Shared} {fp:List Addr}
theorem DQ {h:Heap} {D:Addr} {Z:Obj} (S:aU X scope N k) (hc:X.calm=true) (I:Inv X pins σ H s) (hf:∀b∈fp,lz X pins H b) (ho:∀b∈fp,∃o,s.heap.get? b=some o/\∀v,o.data≠.cell v)
  (hC:s.heap.objs.size<C) (hD:D=s.heap.objs.size) (keep:∀b o,s.heap.get? b=some o->h.get? b=some o) (hDo:h.get? D=some Z) (hDc:∀v,Z.data≠.cell v) (hn:h.Ns C (λ_=>none)) :
  Inv (bz X scope N C s H fp) [(D,Z)] (List.replicate k none++σ) H { s with heap:=h,toks:=t' }:=by
 have Kq:∀b∈fp,b<s.heap.objs.size:=λb U=>by obtain ⟨o,e,_⟩:=ho b U;exact zA e
 have sub:∀x c,(di X.env.cells scope.names []).lookup x=some c->X.env.cells.lookup x=some c:=λx c e=>by
  rcases o9 e with z|z
  ·simp at z
  ·exact z
 have ac6:∀x c,X.env.cells.lookup x=some c->c<s.heap.objs.size:=λx c e=>by
  obtain ⟨v,q⟩:=I.cell x c e
  exact q.lt
 have n:∀c v,s.heap.IsCell c v->h.IsCell c v:=λc v ⟨o,e,d⟩=>⟨o,keep c o e,d⟩
 refine ⟨⟨I.ok.mod,S.kind,?_,?_,xp hC,λx y c h1 h2=>I.ok.inj x y c (sub x c h1) (sub y c h2),λx hx=>?_,λx c z=>absurd (show false=true from z) y9,λ_=>I.ok.hd hc,I.ok.frames,.inl rfl,λb U=>⟨zH (xb (Kq b U) hC),λx c e=>(hf b U).2.c x c (sub x c e)⟩,
   I.bs,zY I.ok.HW I.sz,λb o e U=>?_,λb U z=>?_,I.stack,I.qW⟩,rfl,I.bare,Un.kept keep,⟨_,hn,λi x v e1 e2 e3=>?_⟩,λx c e=>?_,I.hok.fresh (xp hC),λx c e=>I.fJ x c (sub x c e),λp hp=>?_,I.hok.kept keep,?_⟩
 ·exact I.ok.glob
 ·exact I.ok.blt
 ·-- every Z4 name has its cell
  have J:(relabel scope X.env).names.lookup x=some .cell\/(relabel scope X.env).names.lookup x=some .free:=hx
  cases B:scope.names.lookup x with
  | none=>
   have q:=dO (env:=X.env) B
   unfold relabel at J
   rcases J with z|z<;>(rw [q] at z;cases z)
  | some kd=>
   have q:=gP (env:=X.env) B
   have Y:=yM B
   have hfr:kd=.free:=by
    by_cases z:kd=.free
    ·exact z
    ·unfold relabel at J
     have z':(kd == NameKind.free)=false:=by simpa using z
     rw [z'] at q
     simp only [Bool.false_and,Bool.false_eq_true,if_false] at q
     rcases J with y|y
     ·rw [q] at y
      have y':kd=.cell:=ya y
      exact absurd y' (S.sE _ Y)
     ·rw [q] at y;exact absurd (ya y) z
   subst hfr
   obtain ⟨c,hc'⟩:=I.ok.has x (S.free _ Y rfl)
   exact o_ Y (by rw [hc'];rfl)
 ·-- the base's records are no iterator's
  rcases (hf b U).2.e with z|z
  ·exact I.ok.uG b o e z
  ·rw [(I.ok.bs b o e).1] at z;cases z
 ·obtain ⟨_,z1,z2,_⟩:=hf b U
  rcases zm.mp (I.lR b z) with y|y
  ·exact z1 y
  ·exact z2 y
 ·-- the names
  have e1':N[i]? = some x:=e1
  by_cases hi:i<k
  ·rw [zJ (by simpa using hi),zQ,zo hi] at e2
   cases e2
  ·obtain ⟨j,rfl⟩:∃j,i=k+j:=⟨i - k,by omega⟩
   rw [zS (by simp),zD,Nat.add_sub_cancel_left] at e2
   have O:(relabel scope X.env).names.lookup x=some .local\/(relabel scope X.env).names.lookup x=some .cell\/(relabel scope X.env).names.lookup x=some .free:=e3
   cases B:scope.names.lookup x with
   | none=>
    have q:=dO (env:=X.env) B
    unfold relabel at O
    rcases O with z|z|z<;>(rw [q] at z;cases z)
   | some kd=>
    have q:=gP (env:=X.env) B
    rcases S.out j x e1' (by rw [B];rfl) with ⟨o1,o2⟩|o
    ·rw [B] at o2;cases o2
     have Y:=yM B
     have hv:Vq X.env.scope x:=by
      rcases S.free _ Y rfl with z|z
      ·exact .inr (.inl z)
      ·exact .inr (.inr z)
     obtain ⟨m,hns,hlk⟩:=I.loc
     obtain ⟨u,r,l⟩:=hlk j x v o1 e2 hv
     refine ⟨u,r,.inr ⟨?_,?_⟩⟩
     ·show (relabel scope X.env).names.lookup x=some .cell\/(relabel scope X.env).names.lookup x=some .free
      unfold relabel
      rw [q]
      split
      ·exact .inl rfl
      ·exact .inr rfl
     ·rcases l with ⟨z,_⟩|⟨_,c,e,z⟩
      ·rcases S.free _ Y rfl with y|y<;>(rw [show X.env.kindOf x=some NameKind.local from z] at y;cases y)
      ·obtain ⟨d,hd⟩:=o_ (cs:=[]) Y (by rw [e];rfl)
       have hd':=sub x d hd
       rw [e] at hd';cases hd'
       exact ⟨c,hd,n _ _ z⟩
    ·rw [B] at o;cases o
     simp only [show (NameKind.globalImplicit == NameKind.free)=false from rfl,Bool.false_and,Bool.false_eq_true,if_false] at q
     unfold relabel at O
     rcases O with z|z|z<;>(rw [q] at z;cases z)
 ·obtain ⟨v,q⟩:=I.cell x c (sub x c e)
  exact ⟨v,n _ _ q⟩
 ·have e:p=(D,Z):=by
   have hp':p∈([]:List (Addr × Obj))++[(D,Z)]:=hp
   simpa using hp'
  subst e
  refine ⟨hDo,I.hok.fresh (by rw [hD];exact zx _),?_,λz=>?_,hDc⟩
  ·show D≠C
   rw [hD];exact zH hC
  ·have:=I.lR D z
   rcases zm.mp this with y|y
   ·rw [hD] at y;exact absurd I.lt (by rw [<-y];exact xi _)
   ·exact I.Zo (by rw [hD];exact zx _) y
 ·show (List.replicate k none++σ).length=N.length
  rw [zj,zD,S.len,I.len]
end
section
variable {X:Cx} {scope:Scope} {N:List Str} {k:Nat} {pins:List (Addr × Obj)} {σ:St} {H:Hp} {s:Shared} {fp:List Addr}
theorem sG {h':Heap} {D C:Addr} {oD:Obj} {σ1:St} {H1:Hp} {Y:Shared} {ob:HO} (I:Inv X pins σ H s) (hf:∀b∈fp,lz X pins H b) (hC:s.heap.objs.size<C) (hD:D=s.heap.objs.size)
  (J:Inv (bz X scope N C s H fp) [(D,oD)] σ1 H1 Y) (hd:∀(H:Hp) (h:Heap),h.get? D=some oD->bK X.prog X.w H h D ob) (Z:Heap.SameBut C Y.heap h'):Inv X pins σ (upd H1 D ob) { Y with heap:=h' }:=by
 obtain ⟨eD,nD,neC,_,_⟩:=J.pin (D,oD) (by simp)
 have B:Un (frs X.stack) fp H H1 s.heap Y.heap:=J.base
 have lt:∀{b:Addr} {o:Obj},s.heap.get? b=some o->b≠C/\b≠D:=λ{b o} e=>⟨zH (xb (zA e) hC),by rw [hD];exact zH (zA e)⟩
 refine I.call' (s':={ Y with heap:=h' }) (ch:=fp) (show Y.os=s.os from J.os) ⟨λb o q n O U=>(Z.2 b (lt q).1).trans (B.keep b o q n O U),λb o q n O U=>?_,λb o q n U=>?_,λb o q U=>?_,λb o xs q=>?_⟩
  ((J.hok.moved (ch:=[C]) (λb O=>zr.mp O▸J.free) λb u O q=>(Z.2 b λz=>O (zr.mpr z)).trans q).track nD (hd _ _ ((Z.2 _ neC).trans eD))) J.bare λb O=>(hf b O).2
 ·obtain ⟨sl,e⟩:=B.slot b o q n O U
  exact ⟨sl,(Z.2 b (lt q).1).trans e⟩
 ·rw [aJ (lt q).2];exact B.free b o q n U
 ·obtain ⟨o',e⟩:=B.there b o q U
  exact ⟨o',(Z.2 b (lt q).1).trans e⟩
 ·have e:=B.o6 b o xs q
  rw [aJ (gK e nD)];exact e
theorem Iv {prog : Program} {w : World} {A : Around} {e tg : Expr} {ifs : List Expr} {p : Pos} {Z : Value} {D : Addr} {O : Sem Unit} {env : Env} {R : Result → Shared → Prop} {s : Shared} (I : Nat → Shared → Prop) (hu : A.under (.compLoop e 0 Z (.ref D) env) = A)
    (ht : (model prog w).den (.compLoop e 0 Z (.ref D) env) = ((do
      standAt p
      match ← pyNext Z with
      | none => pure (.done .next)
      | some v =>
        letOwnedTupleGo tg Z v
        assign tg env v
        let mut ok := true
        for c in ifs do
          if ok then ok ← isTrue c env (eval c env)
        if ok then O
        again (.compLoop e 0 Z (.ref D) env)) : Sem _).onRaise (λx => do noteFrame x env; theTreesLotGoes x))
    (turn : ∀ n s, I n s → wpAny (model prog w) A (pyNext Z) (λr J => match r with
      | none => R (.ok .next) J
      | some v => wpAny (model prog w) A (letOwnedTupleGo tg Z v) (λ_ B => wpAny (model prog w) A (assign tg env v) (λ_ Y =>
          wpAny (model prog w) A (forIn ifs true λc r => if r = true then do let ok ← isTrue c env (eval c env); pure (ForInStep.yield ok) else pure (ForInStep.yield r)) (λok z =>
            if ok = true then wpAny (model prog w) A O (λ_ U => ∃ m, m < n ∧ I m U) (notedBy (model prog w) A env λx s' => R (.error x) s') z
            else ∃ m, m < n ∧ I m z) (notedBy (model prog w) A env λx s' => R (.error x) s') Y) (notedBy (model prog w) A env λx s' => R (.error x) s') B) (notedBy (model prog w) A env λx s' => R (.error x) s') J) (notedBy (model prog w) A env λx s' => R (.error x) s') s)
    (n : Nat) (h : I n s) : codeAny (model prog w) A (.compLoop e 0 Z (.ref D) env) R s := by
  refine codeAny_loop rfl I (λn s hI => ?_) n h
  rw [hu, ht]
  refine wpAny_noted ?_
  refine zd (xq (zd (bu (turn n s hI) λr J h₁ => ?_)))
  cases r with
  | none => exact zB h₁
  | some v =>
    refine zd (bu h₁ λ_ B h₁' => zd (bu h₁' λ_ Y h₂ => zd (bu h₂ λok z h₃ => ?_)))
    cases ok with
    | false => exact zB ⟨rfl, h₃⟩
    | true => exact zd (bu h₃ λ_ U h₄ => zB ⟨rfl, h₄⟩)
def pA (M:Model) (A:Around) (E:Value->Shared->Prop) (use:Option (Value->Sem Unit)) (Q:Value->Shared->Prop) (z:Value) (n:Env):Result->Shared->Prop
 | .ok f,s'=>compPost M A E use Q z n.locals (.ok f) s'
 | .error x,s'=>∃m,s'.heap.Ns n.locals m/\∀h',Heap.SameBut n.locals s'.heap h'->wpAny M A (passOn "comprehension.variables-let-go" x n:Sem Value) (λ_ _=>False) E { s' with heap:=h' }
theorem Iw {s:Shared} {env:Env} {scope:Scope} {g:Comprehension}
  (hcl:clausesOf e=g::gs) (hs:∀x,foldedSetIterable g.iter env x=pure x) (J:closureFor scope env=pure cl) (n:scope.kind=.function) (B:∀x∈scope.names,x.2=.local->scope.names.lookup x.1=some .local)
  (h:wpAny M A fst (λx s1=>wpAny M A (pyIter x) (λit Y=>wpAny M A nw (λz s3=>wpAny M A (newFunctionEnv scope env.globals cl [] env.qual none .none (some env)) (λD s4=>
   codeAny M A (.compStart e 0 it z { D with scope:=relabel scope env }) (pA M A E use Q z { D with scope:=relabel scope env }) s4) E s3) E Y) E s1) E s):wpAny M A (comprehension e scope env pos nw false fst use) Q E s:=by
 unfold comprehension
 rw [J,hcl]
 refine zd (bu h λx s1 h1=>zd (xq (zd (wpAny_of_eq (hs x) (zd (zU (bu h1 λit Y h2=>?_)))))))
 refine wpAny_standIf (zd (bu h2 λz s3 h3=>zd (zB (zd (bu h3 λD s4 h4=>?_)))))
 dsimp only
 have Z:∀x∈(scope.names.filter λx=>(x.2 == .local || x.2 == .cell) && x.1 != (".0":Str)).reverse,x.2=.local->Env.kindOf { D with scope:=relabel scope env } x.1=some .local:=
  λx hx hl=>lookup_relabel_local (B x (List.mem_filter.mp (x8.mp hx)).1 hl)
 refine zU (zd (wpAny_attempt (zU (wpAny_run (codeAny_mono h4 λr s' I=>?_)))))
 cases r with
 | ok f=>
  cases use with
  | none=>
   obtain ⟨m,U,I⟩:=(show compPost M A E none Q z D.locals (.ok f) s' from I)
   exact zd (zU (wpAny_comp_letGo (cenv:={ D with scope:=relabel scope env }) n _ s' m Z U λh' _ _ O=>zB (I h' O)))
  | some u=>
   refine zd (wpAny_rule (zd (zU (bu (show wpAny M A (u z) _ E s' from I) λ_ Y h2=>?_))))
   obtain ⟨m,U,h2⟩:=h2
   refine zd (wpAny_comp_letGo (cenv:={ D with scope:=relabel scope env }) n _ Y m (λx hx=>?_) U λh' _ _ O=>zB (h2 h' O))
   rcases zK.mp hx with y|y
   ·exact Z x (List.mem_of_mem_drop y)
   ·exact Z x (xk y)
 | error x=>
  obtain ⟨m,U,I⟩:=I
  exact zd (zU (wpAny_comp_letGo (cenv:={ D with scope:=relabel scope env }) n _ s' m Z U λh' _ _ O=>xl (I h' O) (λ_ _ f=>f.elim) λ_ _ y=>y))
abbrev dH (X:Cx) (n:Scope) (N:List Str) (C:Addr) (s:Shared) (H:Hp) (z:List Addr) (E:Value->Shared->Prop):Cx:={ bz X n N C s H z with xe:=E }
theorem Inv.xe {X:Cx} {H:Hp} {s:Shared} (I:Inv { X with xe:=E } pins σ H s):Inv { X with xe:=E' } pins σ H s:=
 ⟨⟨I.ok.mod,I.ok.kind,I.ok.glob,I.ok.blt,I.ok.above,I.ok.inj,I.ok.has,I.ok.cab,I.ok.hd,I.ok.frames,I.ok.stk,I.ok.Vr,I.ok.bs,I.ok.HW,I.ok.uG,I.ok.vP,I.ok.jD,I.ok.JG⟩,I.os,I.bare,I.base,I.loc,I.cell,I.free,I.fJ,I.pin,I.hok,I.len⟩
def Wf (X:Cx) (n:Scope) (use:Option (Value->Sem Unit)) (Q:Value->Shared->Prop) (C D:Addr):Value->Shared->Prop:=
 notedBy (model X.prog X.w) X.A (compEnvC n (di X.env.cells n.names []) C X.env) λx s'=>pA (model X.prog X.w) X.A X.xe use Q (.ref D) (compEnvC n (di X.env.cells n.names []) C X.env) (.error x) s'
structure Kr (P : Program) (w : World) {α : Type} (ho : α → HO) (emp : α) (e tg iter : Expr) (ifs : List Expr) (T : String) (d0 : Data) (tail : Addr → Env → Sem Unit) : Prop where
  cl : clausesOf e = [⟨tg, iter, ifs, 0⟩]
  st : ∀ {A it acc env R s}, codeAny (model P w) A (.compLoop e 0 it acc env) R s → wpAny (model P w) A (pyIter it) (λit' s' => codeAny (model P w) A (.compLoop e 0 it' acc env) R s') (notedBy (model P w) A env λx s' => R (.error x) s') s → codeAny (model P w) A (.compStart e 0 it acc env) R s
  turn : ∀ it D env, ∃ p, (model P w).den (.compLoop e 0 it (.ref D) env) = ((do
      standAt p
      match ← pyNext it with
      | none => pure (.done .next)
      | some v =>
        letOwnedTupleGo tg it v
        assign tg env v
        let mut ok := true
        for c in ifs do
          if ok then ok ← isTrue c env (eval c env)
        if ok then tail D env
        again (.compLoop e 0 it (.ref D) env)) : Sem _).onRaise (λx => do noteFrame x env; theTreesLotGoes x)
  un : ∀ (A : Around) it acc env, A.under (.compLoop e 0 it acc env) = A
  fr : Obj.isFreed { cls := .type T, data := d0 } = false
  ok : sizeOk d0
  c0 : ∀ v, d0 ≠ .cell v
  o0 : ∀ (D : Addr) (H : Hp) (h : Heap), (D == sysModules) = false → h.get? D = some { cls := .type T, data := d0 } → bK P w H h D (ho emp)
inductive Z5 (Y:Cx) (D:Addr) (oD:Obj) (pl:List (Addr × Obj)) (σ:St) {α:Type} (ho:α->HO) (M:α->Hp->Prop) (s2:Shared):Prop
 | mk (zs:α) (o':Obj) (H':Hp) (s1:Shared) (h':Heap) (t':Nat):Inv Y ((D,oD)::pl) σ H' s1->M zs H'->s2={ s1 with heap:=h',toks:=t' }->h'.get? D=some o'->(∀(H:Hp) (h:Heap),h.get? D=some o'->bK Y.prog Y.w H h D (ho zs))->(∀v,o'.data≠.cell v)->
  (∀b o,b≠D->s1.heap.get? b=some o->h'.get? b=some o)->Z5 Y D oD pl σ ho M s2
def Q_ (Y:Cx) {α:Type} (B:α->HO) (len:α->Nat) (I:α->St->Hp->(α->Hp->Prop)->Prop) (n:Addr->Env->Sem Unit):Prop:=
 ∀(D:Addr) (z:Obj) (pl:List (Addr × Obj)) (σ:St) (H:Hp) (s:Shared) (ys:α) (M:α->Hp->Prop),Inv Y ((D,z)::pl) σ H s->(∀(H:Hp) (h:Heap),h.get? D=some z->bK Y.prog Y.w H h D (B ys))->len ys<sizeLine->I ys σ H M->
  wpAny (model Y.prog Y.w) Y.A (n D Y.env) (λ_ J=>Z5 Y D z pl σ B M J) Y.xe s
theorem pB {α:Type} {ho:α->HO} {len:α->Nat} {emp:α} {ta:α->St->Hp->(α->Hp->Prop)->Prop} {e iter tg:Expr} {ifs:List Expr} {Wg:Pos} {wi:TI} {g:TG} {tt:TT} {Ty:String} {d0:Data} {tail:Addr->Env->Sem Unit} {use:Option (Value->Sem Unit)} {Qc:Value->Shared->Prop} {Q:VK}
  (B:Kr X.prog X.w ho emp e tg iter ifs Ty d0 tail) (S:aU X scope N k) (hc:X.calm=true) (hi:PI X tg iter wi)
  (hg:∀C s H fp E,PG (dH X scope N C s H fp E) tg g) (ht:∀C s H fp E,v9 (dH X scope N C s H fp E) ifs tt) (ha:∀C s H fp,Inv X pins σ H s->(∀b∈fp,lz X pins H b)->s.heap.objs.size<C->Q_ (dH X scope N C s H fp (Wf X scope use Qc C s.heap.objs.size)) ho len ta tail)
  (hs:∀x,foldedSetIterable iter X.env x=pure x) (I:Inv X pins σ H s) (h:pq ho len emp ta k wi g tt σ H Q)
  (fin:∀(n:Shared) (H2:Hp) (fp:List Addr) (C:Addr) (σ5:St) (H5:Hp) (s5:Shared) (oD:Obj) (ob:HO),Inv X pins σ H2 n->(∀b∈fp,lz X pins H2 b)->n.heap.objs.size<C->
   Inv (bz X scope N C n H2 fp) [(n.heap.objs.size,oD)] σ5 H5 s5->(∀(H:Hp) (h:Heap),h.get? n.heap.objs.size=some oD->bK X.prog X.w H h n.heap.objs.size ob)->Q (.ref n.heap.objs.size) (upd H5 n.heap.objs.size ob)->
   compPost (model X.prog X.w) X.A X.xe use Qc (.ref n.heap.objs.size) C (.ok .next) s5) :
  wpAny (model X.prog X.w) X.A (comprehension e scope X.env Wg (newObj (.type Ty) d0) false (eval iter X.env) use) Qc X.xe s:=by
 have hclos:closureFor scope X.env=pure (di X.env.cells scope.names []):=uJ λx hx hk=>by
  obtain ⟨c,e⟩:=I.ok.has x.1 (S.free x hx hk)
  rw [e];rfl
 refine Iw (use:=use) B.cl hs hclos S.kind S.loc (bu (hi pins s σ H _ I h) λv s1 h1=>bu h1 λitv n h2=>?_)
 obtain ⟨it,fp,tn,J,H2,e,I2,T,st2,f2,W,⟨m0,w0⟩,turn⟩:=h2
 subst e
 have ho2:=T.obj 0 _ st2
 have Kq:∀b∈fp,b<n.heap.objs.size:=λb Y=>by obtain ⟨o,e,_⟩:=ho2 b Y;exact zA e
 have big:(n.heap.objs.size == sysModules)=false:=ym.mpr (Ne.symm (zH (xb (by decide) (I2.mod.glob.keeps I2.bk).lt)))
 refine wpAny_newObj_type (wpAny_newFunctionEnv S.sE (by intro y hy;simp at hy) (λh₁ U O=>?_) S.kind) B.ok
 dsimp only at U O ⊢
 generalize hH2:n.heap.push { cls:=.type Ty,dict:=none,data:=d0 }=HH at U O ⊢
 have hC:n.heap.objs.size<HH.objs.size:=by rw [<-hH2,xo];exact Nat.lt_succ_self _
 have old:∀b o,n.heap.get? b=some o->h₁.get? b=some o:=λb o e=>O.extBut b o (zH (xb (zA e) hC)) (zu _ (hH2▸zu _ e))
 have hacc:h₁.get? n.heap.objs.size=some { cls:=.type Ty,data:=d0 }:=O.extBut _ _ (zH hC) (zu _ (hH2▸zz _ B.fr))
 generalize HH.objs.size=C at *
 generalize hD:n.heap.objs.size=D at *
 have hDs:n.heap.objs.size<=D:=Nat.le_of_eq hD
 let X':=dH X scope N C n H2 fp (Wf X scope use Qc C D)
 have sub:∀x c,(di X.env.cells scope.names []).lookup x=some c->X.env.cells.lookup x=some c:=λx c e=>by
  rcases o9 e with y|y
  ·simp at y
  ·exact y
 have stat:∀{H':Hp} {o:Obj},(∀b∈fp,H' b=none)->∀b∈fp,lz X' [(D,o)] H' b:=λ{H' o} hn b Y=>by
  obtain ⟨z0,z1,z2,z3,z4,z5⟩:=f2 b Y
  refine ⟨hn b Y,zH (xb (Kq b Y) hC),λz=>?_,.inl Y,λx c e=>z4 x c (sub x c e),λp hp=>?_⟩
  ·rcases zm.mp (I2.lR b z) with y|y
   ·exact z1 y
   ·exact z2 y
  ·rw [zr.mp (show p∈[(D,o)] from hp)]
   exact Ne.symm (zH (Kq b Y))
 have I3:Inv X' [(D,{ cls:=.type Ty,data:=d0 })] (List.replicate k none++σ) H2 { n with heap:=h₁,toks:=n.toks+([]:List (Str × Value)).length }:=
  Inv.xe (DQ S hc I2 f2 ho2 (hD▸hC) hD.symm old hacc B.c0 (by simpa using U))
 have loop:∀s₃:Shared,s₃={ n with heap:=h₁,toks:=n.toks+([]:List (Str × Value)).length }->
   codeAny (model X.prog X.w) X.A (.compLoop e 0 (.ref it) (.ref D) (compEnvC scope (di X.env.cells scope.names []) C X.env)) (pA (model X.prog X.w) X.A X.xe use Qc (.ref D) (compEnvC scope (di X.env.cells scope.names []) C X.env)) s₃:=by
  rintro s₃ rfl
  obtain ⟨p,hturn⟩:=B.turn (.ref it) D (compEnvC scope (di X.env.cells scope.names []) C X.env)
  refine Iv (λm s'=>∃i ys oD σ' H',Inv X' [(D,oD)] σ' H' s'/\(∀(H:Hp) (h:Heap),h.get? D=some oD->bK X.prog X.w H h D (ho ys))/\tn i s'.heap/\(∀b∈fp,H' b=none)/\W i m ys σ' H') (B.un _ _ _ _) hturn ?_ m0
   ⟨0,emp,_,_,H2,I3,λH h e=>B.o0 D H h big e,T.keep _ _ _ st2 λb _ o e=>old b o e,λb Y=>(f2 b Y).1,w0⟩
  rintro m s4 ⟨i,ys,oD,σ4,H4,I4,rv,st4,fr4,w4⟩
  rcases turn i m ys σ4 H4 w4 with ⟨stop,qn⟩|⟨go,hlt,M,hM,step⟩
  ·refine bu (T.done X' rfl rfl rfl rfl i _ s4 σ4 H4 X'.xe I4 (stat fr4) st4 stop) λr s5 zq=>?_
   obtain ⟨hr,I5⟩:=zq
   subst hr
   subst hD
   exact fin n H2 fp C _ _ _ oD _ I2 f2 hC (Inv.xe I5) rv (qn _ (I5.pin (n.heap.objs.size,oD) (by simp)).2.1)
  ·refine bu (T.item X' rfl rfl rfl rfl i _ s4 σ4 H4 X'.xe I4 (stat fr4) st4 go) λr s5 zq=>?_
   obtain ⟨u,hr,h5⟩:=zq
   subst hr
   refine bu h5 λ_ s6 zq=>?_
   obtain ⟨x,H6,I6,r6,y6,st6,fr6⟩:=zq
   have I6':=I6.pinned (stat fr6) (T.obj _ _ st6)
   have back:∀{Z:St} {H7:Hp} {s7:Shared},Inv X' ([(D,oD)]++rZ fp s6.heap) Z H7 s7->tn (i+1) s7.heap/\∀b∈fp,H7 b=none:=λ{Z H7 s7} I7=>by
    have pn:∀b∈fp,∀o,s6.heap.get? b=some o->_:=λb Y o e=>I7.pin (b,o) (yo _ (yo _ (lU Y e)))
    refine ⟨T.keep _ _ _ st6 λb Y o e=>(pn b Y o e).1,λb Y=>?_⟩
    obtain ⟨o,e,d⟩:=T.obj _ _ st6 b Y
    exact (pn b Y o e).2.1
   refine bu (hg C n H2 fp _ _ s6 σ4 H6 x u _ I6' r6 (step x H6 y6)) λ_ s7 zq=>?_
   obtain ⟨Z,H7,I7,q7⟩:=zq
   refine bu (ht C n H2 fp _ _ s7 Z H7 _ I7 q7) λb s8 zq=>?_
   obtain ⟨H8,I8,q8⟩:=zq
   cases b with
   | false=>
    rw [zh y9] at q8 ⊢
    obtain ⟨m',hm,w'⟩:=hM _ _ _ q8
    obtain ⟨t8,f8⟩:=back I8
    exact ⟨m',hm,i+1,ys,oD,Z,H8,I8.nF,rv,t8,f8,w'⟩
   | true=>
    rw [zo rfl] at q8 ⊢
    refine bu (hD▸(ha C n H2 fp I2 f2 (hD▸hC)) D oD _ Z H8 s8 ys _ I8 rv hlt q8) λ_ sA zq=>?_
    obtain ⟨zs,o',H9,s9,h',t',I9,q9,rfl,eo,ro,co,kp⟩:=zq
    obtain ⟨t9,f9⟩:=back I9
    obtain ⟨eD,nD,neC,nfD,_⟩:=I9.pin (D,oD) (by simp)
    obtain ⟨m',hm,w'⟩:=hM _ _ _ q9
    refine ⟨m',hm,i+1,zs,o',Z,H9,((I9.qX (Gd:=[]) λp hp=>nomatch hp).turned ⟨nD,neC,nfD,.inr (Heap.get?_none_of_le hDs),λx c e=>?_,λp hp=>nomatch hp⟩ kp).qX λp hp=>?_,ro,T.keep _ _ _ t9 λb Y o e=>kp b o (zH (hD▸Kq b Y)) e,f9,w'⟩
    ·obtain ⟨v,zc⟩:=I2.cell x c (sub x c e)
     exact zH (hD▸zc.lt)
    ·rw [zr.mp hp]
     exact ⟨eo,nD,neC,nfD,co⟩
 exact B.st (loop _ rfl) (T.self _ 0 _ _ _ (T.keep _ _ _ st2 λb _ o e=>old b o e) (loop _ rfl))
theorem PE.xe {C:Addr} {E:Value->Shared->Prop} {e:Expr} {t:TE} (h:PE (bz X scope N C s H fp) e t):PE (dH X scope N C s H fp E) e t:=λpins s σ H Q I q=>
 xl (h pins s σ H Q (Inv.xe I) q) (λ_ _ z=>by obtain ⟨v,H',n,r,q⟩:=z;exact ⟨v,H',Inv.xe n,r,q⟩) λ_ _ z=>z.elim
theorem v9.xe {C:Addr} {E:Value->Shared->Prop} {n:List Expr} {t:TT} (h:v9 (bz X scope N C s H fp) n t):v9 (dH X scope N C s H fp E) n t:=λpins s σ H Q I q=>
 xl (h pins s σ H Q (Inv.xe I) q) (λ_ _ z=>by obtain ⟨H',B,q⟩:=z;exact ⟨H',Inv.xe B,q⟩) λ_ _ z=>z.elim
theorem PG.xe {C:Addr} {E:Value->Shared->Prop} {n:Expr} {t:TG} (h:PG (bz X scope N C s H fp) n t):PG (dH X scope N C s H fp E) n t:=λpins s σ H v u Q I r q=>
 xl (h pins s σ H v u Q (Inv.xe I) r q) (λ_ _ z=>by obtain ⟨σ',H',B,q⟩:=z;exact ⟨σ',H',Inv.xe B,q⟩) λ_ _ z=>z.elim
abbrev Gn (n:Expr) (D:Addr) (env:Env):Sem Unit:=do let _ <-call (.builtin "list.append") [.ref D,<-eval n env]
theorem Ks {P:Program} {w:World} {J B O:Expr} {I:List Expr} {n:Scope} {pos:Pos}:Kr P w HO.lst [] (.ListComp J [⟨O,B,I,0⟩] n pos) O B I "list" (.seq #[]) (Gn J) where
 cl:=rfl
 st:=codeAny_compStart_list
 turn:=λU D env=>⟨_,yd (Sem.onRaise · λx=>do noteFrame x env;theTreesLotGoes x) (compTurn_list J O B I n pos U (.ref D) env)⟩
 un:=λ_ _ _ _=>rfl
 fr:=rfl
 ok:=by size_fits
 c0:=λv z=>by cases z
 o0:=λD H h _ e=>⟨yu _,[],0,.nil,e⟩
theorem v_ {Y:Cx} {J:Expr} {Z:TE} (he:PE Y J Z):Q_ Y HO.lst List.length (Z3 Z) (Gn J):=by
 intro D oD pl σ H s ys M I hd hz q
 refine zd (bu (he _ s σ H _ I q) λy U zq=>?_)
 obtain ⟨z,H9,I9,r9,q9⟩:=zq
 obtain ⟨O,_⟩:=I9.pin (D,oD) (by simp)
 obtain ⟨_,B,n,rv,e⟩:=hd H9 U.heap O
 obtain rfl:=ya (O.symm.trans e)
 refine zd (x9 F.slot_list_append ⟨_,O,rfl⟩ F.entry_list_append (F.args_list_append_2 _ _) (PySem.list_append D B.toArray n y (by rw [zC,<-rv.length];omega)) ⟨O,zB ?_⟩)
 have q:=PySem.IsL.update O (λa=>a.push y)
 rw [show (B.toArray.push y)=(B++[y]).toArray by simp] at q
 exact ⟨ys++[z],_,H9,U,_,U.toks,I9,q9,rfl,q,λH h e=>⟨by rw [zj,yx];omega,B++[y],_,rv.append (.cons r9 .nil),e⟩,(λv w=>by cases w),λb o hb e=>(yN U.heap _ (Ne.symm hb)).trans e⟩
theorem Ra {n:Expr} (S:aU X scope N k) (hc:X.calm=true) (hi:PI X tg iter wi)
  (Z:∀C s H fp,PG (bz X scope N C s H fp) tg g) (U:∀C s H fp,v9 (bz X scope N C s H fp) ifs tt) (he:∀C s H fp,PE (bz X scope N C s H fp) n te)
  (Y:∀x,foldedSetIterable iter X.env x=pure x:=by intro _;rfl):PE X (.ListComp n [⟨tg,iter,ifs,0⟩] scope pos) (Bl k wi g tt te):=by
 intro pins s σ H Q I h
 rw [eval_ListComp]
 refine pB Ks S hc hi (λC s H fp _=>(Z C s H fp).xe) (λC s H fp _=>(U C s H fp).xe) (λC s H fp _ _ _=>v_ (he C s H fp).xe) Y I h λO H2 fp C D H5 s5 oD ob I2 f2 hC B hd q=>?_
 obtain ⟨mC,z,_⟩:=B.loc
 exact ⟨mC,z,λh' J=>⟨.ref O.heap.objs.size,_,sG I2 f2 hC rfl B hd J,rfl,q⟩⟩
theorem qm {α:Type} {Z:α->HO} {len:α->Nat} {emp:α} {ta:α->St->Hp->(α->Hp->Prop)->Prop} {i:Nat} {x:Str} {e n tg:Expr} {Y:List Expr} {pos z Wg:Pos} {wi:TI} {g:TG} {tt:TT} {Ty:String} {d0:Data} {O:Addr->Env->Sem Unit}
  (B:Kr X.prog X.w Z emp e tg n Y Ty d0 O) (ac8:∀u,evalThenUse e X.env u=(comprehension e scope X.env Wg (newObj (.type Ty) d0) false (eval n X.env) (some u) >>= λ_=>pure ())) (hN:X.N.Nodup) (hi':X.N[i]? = some x) (hx:Loc X.env.scope x)
  (S:aU X scope N k) (hc:X.calm=true) (hi:PI X tg n wi) (hg:∀C s H fp,PG (bz X scope N C s H fp) tg g) (ht:∀C s H fp,v9 (bz X scope N C s H fp) Y tt) (ha:∀C s H fp E,Q_ (dH X scope N C s H fp E) Z len ta O)
  (hsw:swapsWith e (some (.Name x z)) pos.line X.env=pure true) (hs:∀x,foldedSetIterable n X.env x=pure x) (hf:X.fn x=true\/X.env.scope.names.lookup x=some .local) :
  PS X (.Assign [.Name x z] e pos) (JZ (pq Z len emp ta k wi g tt) (Av i)):=by
 intro pins s σ H D I h
 rw [exec_Assign_Name_used _ _ _ _ hsw]
 refine zd (xq (zd ?_))
 rw [ac8]
 refine zd (pB (Qc:=λ_ s'=>wpAny (model X.prog X.w) X.A (pure ()) (λ_ s''=>wpAny (model X.prog X.w) X.A (pure Flow.next) (SP X pins D) X.xe s'') X.xe s') B S hc hi (λC s H fp _=>(hg C s H fp).xe) (λC s H fp _=>(ht C s H fp).xe) (λC s H fp _ _ _=>ha C s H fp _) hs I h λU H2 fp C σ5 H5 s5 oD ob I2 f2 hC J hd q=>?_)
 have I6:Inv X pins σ (upd H5 U.heap.objs.size ob) s5:=sG (h':=s5.heap) I2 f2 hC rfl J hd ⟨rfl,λ_ _=>rfl⟩
 show wpAny (model X.prog X.w) X.A (assign (.Name x z) X.env (.ref U.heap.objs.size)) _ X.xe s5
 obtain ⟨mC,hnC,_⟩:=J.loc
 have nC:upd H5 U.heap.objs.size ob C=none:=by
  rw [aJ (Nat.ne_of_gt hC)];exact J.free
 have fC:=I2.VH (xp hC) nC
 refine wpAny_assign_Name (j_ (v:=.ref U.heap.objs.size) (u:=.ref U.heap.objs.size) I6 hN hi' hx rfl (λs7 I7 zq=>?_) hf)
 obtain ⟨a,sb,ha⟩:=zq
 refine ⟨mC,?_,λh' sb'=>zB (zB ⟨_,_,I7.turned (t':=s7.toks) fC λb o hb e=>(sb'.2 b hb).trans e,q⟩)⟩
 obtain ⟨o,es,ep,Z,r⟩:=hnC
 refine ⟨o,es,ep,(sb.2 C ?_).trans Z,r⟩
 rcases ha with rfl|ha
 ·exact fC.2.l
 ·exact Ne.symm (fC.2.c _ _ ha)
end
section
variable {X:Cx} {pins:List (Addr × Obj)} {σ:St} {H H':Hp} {s:Shared} {h':Heap}
theorem Ku {xs:List V} {us:List Value} (r:Vals xs us):Vals xs.reverse us.reverse:=by
 induction r with
 | nil=>exact .nil
 | cons h t ih=>
  rw [yi,yi]
  exact ih.append (.cons h .nil)
def Z6 (K:PySem.W.Frag) (n:TE):TE:=λσ H Q=>n σ H λx H1=>∃(a:Addr) (xs:List V),x=.ref a/\iV K H1 a xs/\∀p,H1 p=none->Q (.ref p) (upd H1 p (.lst xs.reverse))
theorem Wh {j} (he:PE X e te):PE X (.Subscript e (.Slice none none (some (.UnaryOp .USub (.Constant (.int 1) j p1) p2)) p3) pos) (Z6 X.K te):=by
 intro pins s σ H Q I h
 refine Subscript_ (bu (he pins s σ H _ I h) λv O z=>?_)
 obtain ⟨x,H1,I1,Y,q1⟩:=z
 obtain ⟨a,xs,rfl,hq,q⟩:=q1
 cases Y
 refine wpAny_Slice ?_
 rw [evalPart_none]
 refine zB ?_
 refine zB ?_
 rw [evalPart_some]
 refine bu ((ZL V0 jj:PE X _ _) pins O σ H1 (λy H2=>y=.int (-1)/\H2=H1) I1 ⟨1,rfl,rfl,rfl⟩) λw n z=>?_
 obtain ⟨y,H2,I2,U,q2⟩:=z
 obtain ⟨rfl,rfl⟩:=q2
 obtain ⟨tk,rfl⟩:=U
 have D:Inv X pins σ H2 { n with heap:=n.heap.push { cls:=.type "slice",data:=.fields #[.none,.none,.int (-1) tk] } }:=I2.kept (t':=n.toks) λb Z q=>zu _ q
 obtain ⟨B,J,pl,hz⟩:=D.list hq
 show wpAny (model X.prog X.w) X.A (subscriptTail e (.Slice none none (some (.UnaryOp .USub (.Constant (.int 1) j p1) p2)) p3) (.ref a) (.ref n.heap.objs.size)) (EP X pins σ Q) X.xe { n with heap:=n.heap.push { cls:=.type "slice",data:=.fields #[.none,.none,.int (-1) tk] } }
 refine tail_any (ops:=[.ref a,.ref n.heap.objs.size]) pl.isList.typeIs slot_list_getitem.lookup ?_ (by with_unfolding_all rfl)
 have hl:=J.length
 refine wpAny_getItem_list_slice pl.isList (Heap.IsSliceOf.new ..) .none .none (.int (-1) tk) (by simp) ?_ (by rw [zC]<;>omega)
 rw [PySem.W.krv_pick]
 refine ⟨.ref _,_,D.laid (t':=n.toks) (o:=.lst xs.reverse) (λb Z q=>zu _ q) (zx _) ?_,rfl,q _ (D.hok.fresh (zx _))⟩
 exact ⟨by rw [yX];exact hz,B.reverse,0,Ku J,zz _ rfl⟩
def Z7 (i j:Int):Prop:=0<j/\j.natAbs.log2<9000
theorem Kv:g8 X (binaryOp .FloorDiv) (rI Z7 λi j=>.int (i / j)):=Zc λi j _ _ _ _ _ n q=>by
 have h1:(0:Int)<j:=n.1
 refine floordiv_int (by omega) ?_ (.inl (PyProof.noPylong_of_log2 n.2))
 rw [Int.fdiv_eq_ediv_of_nonneg _ (by omega)]
 exact q
end
structure aM (K:PySem.W.Frag) (mg:Str->Option Value) (x:Str) (st:Stmt) (ps:List Str) where
 f:Addr
 fd:FuncData
 F:uE K x x st f fd
 m:mg x=some (.ref f)
 b:Binds K fd ps []
theorem sH {X:Cx} {x:Str} {st:Stmt} {ps:List Str} {k:Nat} {sp:Sp} {e:Expr} {es:List Expr} {p pos:Pos} {t:TA} (D:aM X.K X.mg x st ps) (G:bV X.prog X.w X.K X.mg X.base m7 k D.f D.fd ps sp) (z:bO k X.A) (I:PA X (e::es) t)
  (B:Gl X x:=by rfl) (n:(x == ("__debug__":Str))=false:=by decide) (he:starEach (e::es) X.env=(false,eval e X.env)::starEach es X.env:=by rfl) (hpl:(backTo pos (starEach es X.env)).any (·.1)=false:=by rfl) :
  PE X (.Call (.Name x p) (e::es) [] pos) (Um sp [] E0 t):=
 QX G z B D.m D.F.kp D.b .nil Bk I n he hpl
structure gQ (osc:Scope) (oN:List Str) (scope:Scope) (N:List Str) (k:Nat):Prop where
 kind:scope.kind=.function
 sE:∀y∈scope.names,y.2≠.cell
 nd:N.Nodup
 len:N.length=k+oN.length
 loc:∀x∈scope.names,x.2=.local->scope.names.lookup x.1=some .local
 free:∀x∈scope.names,x.2=.free->osc.names.lookup x.1=some .cell\/osc.names.lookup x.1=some .free
 own:∀x∈N.take k,scope.names.lookup x=some .local
 out:∀p∈(N.drop k).zip oN,(scope.names.lookup p.1).isSome=true->p.1=p.2/\scope.names.lookup p.1=some .free\/scope.names.lookup p.1=some .globalImplicit
theorem aU.of {X:Cx} {n:Scope} {N:List Str} {k:Nat} (S:gQ X.env.scope X.N n N k):aU X n N k where
 kind:=S.kind
 sE:=S.sE
 nd:=S.nd
 len:=S.len
 loc:=S.loc
 free:=S.free
 own:=λi x hi e=>S.own x (by
  have:(N.take k)[i]? = some x:=by rw [List.getElem?_take_of_lt hi];exact e
  exact yn this)
 out:=λi x e J=>by
  have O:=S.len
  have hi:k+i<N.length:=(zp.mp e).1
  have B:i<X.N.length:=by omega
  have e1:(N.drop k)[i]? = some x:=by rw [yp];exact e
  have e2:X.N[i]? = some X.N[i]:=zg B
  have e3:((N.drop k).zip X.N)[i]? = some (x,X.N[i]):=by
   rw [List.getElem?_zip_eq_some]
   exact ⟨e1,e2⟩
  rcases S.out _ (yn e3) J with ⟨I,D⟩|z
  ·exact .inl ⟨by rw [e2];exact yd some I.symm,D⟩
  ·exact .inr z
theorem bY (h:H p=none) (o:HO):aP H (upd H p o):=λb u q=>by rw [aJ (gK q h)];exact q
section
variable {X:Cx} {K:PySem.W.Frag}
theorem Kw (h:X.K=K):Qi X (V8 K):=by subst h;exact Gj
theorem Ky (h:X.K=K):SlR X (Z1 K):=by subst h;exact Q4
def ac9 (K:PySem.W.Frag):List V->Hp->VK->Prop:=λxs H Q=>∃p ys,xs=[.ref p]/\(iV K H p ys\/Dm K H p ys)/\Q (.int ys.length) H
theorem uY (h:X.K=K):g_ X (.builtin "len") (ac9 K):=by subst h;exact v5
theorem Kz (h:X.K=K) (n:PE X l tl):PI X tg l (Uh K tl):=by subst h;exact Qy n
theorem Gp {k:Nat} (I:X.K=K) (D:X.calm=true) (h:vR X es t) (B:(assignEach es X.env).length=n:=by rfl) (z:(assignEach es X.env).findIdx? (·.1)=none:=by rfl):PG X (.Tuple es k pos) (Zz K n t):=by
 subst I;exact Vz D h B z
theorem Rb {j} (h:X.K=K) (he:PE X e te):PE X (.Subscript e (.Slice none none (some (.UnaryOp .USub (.Constant (.int 1) j p1) p2)) p3) pos) (Z6 K te):=by subst h;exact Wh he
end
theorem sI {X:Cx} {k:Nat} {pos:Pos} (hN:X.N.Nodup) (z:X.N[i]? = some x) (B:Loc X.env.scope x)
  (S:aU X scope N k) (O:X.calm=true) (hi:PI X tg iter wi)
  (J:∀C s H fp,PG (bz X scope N C s H fp) tg g) (D:∀C s H fp,v9 (bz X scope N C s H fp) ifs tt) (he:∀C s H fp,PE (bz X scope N C s H fp) elt te)
  (n:swapsWith (.ListComp elt [⟨tg,iter,ifs,0⟩] scope pos2) (some (.Name x pos')) pos.line X.env=pure true:=by rfl)
  (I:∀x,foldedSetIterable iter X.env x=pure x:=by intro _;rfl) (hf:X.fn x=true\/X.env.scope.names.lookup x=some .local:=by first|exact .inl rfl|exact .inr rfl|assumption) :
  PS X (.Assign [.Name x pos'] (.ListComp elt [⟨tg,iter,ifs,0⟩] scope pos2) pos) (JZ (Bl k wi g tt te) (Av i)):=
 qm Ks (λu=>by rw [arm_evalThenUse_ListComp];rfl) hN z B S O hi J D (λC s H fp _=>v_ (he C s H fp).xe) n I hf
section
variable {κ:Type} [DecidableEq κ]
def jL (n:List (κ × V)) (k:κ):Option V:=(n.find? λz=>decide (z.1=k)).map (·.2)
def putK (n:List (κ × V)) (k:κ) (v:V):List (κ × V):=
 if (n.any λz=>decide (z.1=k))=true then n.map (λz=>if z.1=k then (z.1,v) else z) else n++[(k,v)]
theorem KC {k:κ}:jL ([]:List (κ × V)) k=none:=rfl
theorem nJ {p:κ × V} {k:κ} (e:p.1=k):jL (p::r) k=some p.2:=by simp [jL,List.find?_cons,e]
theorem nM {p:κ × V} {k:κ} (e:¬p.1=k):jL (p::r) k=jL r k:=by simp [jL,List.find?_cons,e]
theorem Bm (k:κ):∀n:List (κ × V),(n.any λz=>decide (z.1=k))=(jL n k).isSome
 | []=>rfl
 | p::r=>by
  rw [List.any_cons]
  by_cases e:p.1=k
  ·simp only [nJ e,zZ e,Bool.true_or,Option.isSome_some]
  ·rw [nM e,zO e,Bool.false_or];exact Bm k r
theorem qp (n:List (κ × V)) (k:κ) (v:V):(putK n k v).length<=n.length+1:=by
 unfold putK
 split
 ·rw [z9];omega
 ·rw [zj,zG,xB];omega
theorem KD {k:κ} (v:V) (h:jL kvs k=none):putK kvs k v=kvs++[(k,v)]:=by
 unfold putK
 rw [Bm,h]
 exact zh (by decide)
theorem qJ.Iz {o:Option V} {u:Option Value} (r:qJ o u):o.isSome=u.isSome:=by
 cases o with
 | none=>cases u with
  | none=>rfl
  | some _=>exact (show False from r).elim
 | some _=>cases u with
  | none=>exact (show False from r).elim
  | some _=>rfl
theorem KV.val (r:KV kvs vs) (k:κ):qJ (jL kvs k) (valueAt vs k):=by
 unfold KV at r
 induction r with
 | nil=>exact True.intro
 | @cons p q ps qs h t ih=>
  obtain ⟨h1,h2⟩:=h
  by_cases e:p.1=k
  ·have n:q.1=k:=h1.symm.trans e
   have b:valueAt (q::qs) k=some q.2:=by simp [valueAt,List.find?_cons,n]
   rw [nJ e,b];exact h2
  ·have n:¬q.1=k:=λz=>e (h1.trans z)
   have b:valueAt (q::qs) k=valueAt qs k:=by simp [valueAt,List.find?_cons,n]
   rw [nM e,b];exact ih
theorem KV.any {n:List (κ × V)} {vs:List (κ × Value)} (r:KV n vs) (k:κ):(n.any λz=>decide (z.1=k))=vs.any λz=>decide (z.1=k):=by
 unfold KV at r
 induction r with
 | nil=>rfl
 | cons h t ih=>rw [List.any_cons,List.any_cons,ih,h.1]
theorem KV.repl {B:List (κ × V)} {vs:List (κ × Value)} (r:KV B vs) (k:κ) (D:RelV y u) :
  KV (B.map λn=>if n.1=k then (n.1,y) else n) (vs.map λn=>if n.1=k then (n.1,u) else n):=by
 unfold KV at r ⊢
 induction r with
 | nil=>exact .nil
 | @cons p q ps qs h t ih=>
  rw [yb,yb]
  refine .cons ?_ ih
  obtain ⟨h1,h2⟩:=h
  by_cases e:p.1=k
  ·rw [zo e,zo (h1.symm.trans e)];exact ⟨h1,D⟩
  ·rw [zh e,zh (λz=>e (h1.trans z))];exact ⟨h1,h2⟩
theorem KV.put (r:KV kvs vs) (k:κ) (n:RelV y u):KV (putK kvs k y) (stored vs k u):=by
 unfold putK stored
 rw [r.any k]
 by_cases e:(vs.any λz=>decide (z.1=k))=true
 ·rw [zo e,zo e];exact r.repl k n
 ·rw [zh e,zh e];exact Paired.snoc r ⟨rfl,n⟩
theorem KV.length {n:List (κ × V)} {vs:List (κ × Value)} (r:KV n vs):n.length=vs.length:=Paired.length r
end
theorem Gq {k:Key} (r:RelV (kV k) u):(fX P w).is k u=true:=by
 cases k with
 | inl i=>obtain ⟨t,e⟩:=(show ∃t,u=Value.int i t from r);subst e;exact Al P w i t
 | inr x=>obtain ⟨t,e⟩:=(show ∃t,u=Value.str x t from r);subst e;exact Am P w x t
section
variable {P:Program} {w:World} {H:Hp} {h:Heap} {a:Addr}
theorem Z8 (ok:jG P w H h) (e:Rd H a u):bK P w H h a u:=e.ok ok
theorem KH {n:List (Key × V)} (ok:jG P w H h) (e:Rd H a (.dK n)):n.length<=sizeLine/\(a == sysModules)=false/\∃vs,KV n vs/\h.DictOf (fX P w) a vs:=
 show bK P w H h a (.dK n) from Z8 ok e
theorem Z9 {n:List (Key × V)} (ok:jG P w H h) (e:H a=some (.dK n)):n.length<=sizeLine/\(a == sysModules)=false/\∃vs,KV n vs/\h.DictOf (fX P w) a vs:=KH ok (.inl e)
end
def DR (H:Hp) (a:Addr) (y:V) (r:Option V):Prop:=
 ∃n k,Rd H a (.dK n)/\y=kV k/\r=jL n k
theorem DR.k {H:Hp} {a:Addr} {n:List (Key × V)} {k:Key} (e:H a=some (.dK n)):DR H a (kV k) (jL n k):=⟨n,k,.inl e,rfl,rfl⟩
section
variable {X:Cx} {pins:List (Addr × Obj)} {σ:St} {H:Hp} {s:Shared} {a:Addr} {y v:V} {u r:Value} {o:Option V} {A:Around} {E:Value->Shared->Prop}
theorem Inv.big (I:Inv X pins σ H s):sysModules<s.heap.objs.size:=by
 have h:mainGlobals<s.heap.objs.size:=(I.mod.glob.keeps I.bk).lt
 exact xb (by decide) h
theorem ada (O:A.units+1<cLine) (I:Inv X pins σ H s) (g:DR H a y o) (B:RelV y u) (h:∀s',Inv X pins σ H s'->Q (.bool o.isSome) s') :
  wpAny (model X.prog X.w) A (compareOp .In u (.ref a)) Q E s:=by
 obtain ⟨D,k,e,J,l⟩:=g
 subst J
 obtain ⟨z,hd,vs,n,dd⟩:=KH I.hok e
 refine wpAny_in_of (Gq B) hd dd.mapOf ?_
 rw [<-(n.val k).Iz,<-l]
 exact h _ (I.tok _)
theorem Rc {h':Heap} (I:Inv X pins σ H s) (mu:Zn (H a)) (n:Heap.SameBut a s.heap h') (he:∃q,h'.get? a=some q) (new:bK X.prog X.w (upd H a ob) h' a ob) :
  Inv X pins σ (upd H a ob) { s with heap:=h',toks:=t' }:=
 I.write (x:=a) (e:=a) mu (.inl rfl) (λb q B z=>(n.2 b B).trans z) he new
theorem Wi {D:Hp} {h':Heap} {n:List (Key × V)} (z:n.length<=sizeLine) (hd:(a == sysModules)=false) (B:KV n vs) (dd:h'.DictOf (fX P w) a vs) :
  bK P w D h' a (.dK n):=⟨z,hd,vs,B,dd⟩
end
def Z_ (ty n:TE):TE:=λσ H Q=>ty σ H λy H1=>n σ H1 λx H2=>∃a o,x=.ref a/\DR H2 a y o/\Q (.bl o.isSome) H2
section
variable {X:Cx} {o i e value:Expr} {pos pos' tpos:Pos} {td ty tv:TE}
theorem KJ (O:X.A.units+1<cLine) (hi:PE X i ty) (U:PE X o td):PC X .In i o (Z_ ty td):=by
 intro pins s σ H Q I h
 refine bu (hi pins s σ H _ I h) λiv z ⟨y,H1,I1,B,q1⟩=>bu (U pins z σ H1 _ I1 q1) λu s2 n=>?_
 obtain ⟨x,H2,Z,D,a,J,ex,g,q2⟩:=n
 subst ex
 obtain rfl:u=Value.ref a:=D
 exact ada O Z g B λs3 Y=>⟨.bl J.isSome,H2,Y,rfl,q2⟩
end
theorem Bo (h:Heap) (n:sysModules<h.objs.size):bK P w H (h.push { cls:=.type "dict",data:=.dict #[] }) h.objs.size (.dK []):=
 ⟨yu _,ym.mpr (Ne.symm (zH n)),[],.nil,Heap.DictOf.new h⟩
def Wj:TE:=λ_ H Q=>∀p,H p=none->Q (.ref p) (upd H p (.dK []))
section
variable {X:Cx} {pos:Pos}
theorem KN:PE X (.Dict [] [] pos) Wj:=λpins s σ H Q I h=>
 wpAny_Dict_empty ⟨.ref s.heap.objs.size,_,I.laid (a:=s.heap.objs.size) (o:=.dK []) (t':=s.toks) (λ_ _ q=>zu _ q) (zx _) (Bo s.heap I.big),rfl,h _ (I.hok.fresh (zx _))⟩
end
def DW:List (TE × TE)->St->Hp->(List (V × V)->Hp->Prop)->Prop
 | [],_,H,Q=>Q [] H
 | (tk,tv)::r,σ,H,Q=>tk σ H λx H1=>tv σ H1 λy H2=>DW r σ H2 λps n=>Q ((x,y)::ps) n
abbrev VV:List (V × V)->List (Value × Value)->Prop:=Paired λp q=>RelV p.1 q.1/\RelV p.2 q.2
def PPs (X:Cx) (pos:Pos) (z:List (Option Expr)) (n:List Expr) (B:List (TE × TE)):Prop:=
 ∀(pins:List (Addr × Obj)) (s:Shared) (σ:St) (H:Hp) (Q:List (V × V)->Hp->Prop),Inv X pins σ H s->DW B σ H Q->
  wpAny (model X.prog X.w) X.A (evalPairs (pairTrees z n X.env pos)) (λvs s'=>∃ps H',Inv X pins σ H' s'/\VV ps vs/\Q ps H') X.xe s
theorem Rf:PPs X pos [] [] []:=λpins s σ H Q I h=>pairTrees_nil_walk ⟨[],H,I,.nil,h⟩
theorem sJ {k:Expr} {z:TE} (hk:PE X k z) (Z:PE X v tv) (hr:PPs X pos ks vs trs) :
  PPs X pos (some k::ks) (v::vs) ((z,tv)::trs):=λpins s σ H Q I h=>
 pairTrees_cons_walk (bu (hk pins s σ H _ I h) λu J ⟨x,H1,I1,U,q1⟩=>bu (Z pins J σ H1 _ I1 q1) λw2 D ⟨y,H2,I2,O,q2⟩=>
  bu (hr pins D σ H2 _ I2 q2) λws s3 B=>by obtain ⟨ps,H3,I3,n,Y⟩:=B;exact ⟨(x,y)::ps,H3,I3,.cons ⟨U,O⟩ n,Y⟩)
def pC (n more:List (Key × V)):List (Key × V):=more.foldl (λz B=>putK z B.1 B.2) n
theorem KV.merge:∀{more:List (Key × V)} {z:List (Key × Value)} {n:List (Key × V)} {vs:List (Key × Value)},KV more z->KV n vs->KV (pC n more) (merged vs z):=by
 intro more z n vs r
 unfold KV at r
 induction r generalizing n vs with
 | nil=>intro q;exact q
 | @cons p q ps qs h t ih=>
  intro B
  have e:KV (putK n p.1 p.2) (stored vs q.1 q.2):=by
   have:=B.put p.1 h.2
   rw [<-h.1];exact this
  exact ih e
theorem lJ:∀(more n:List (Key × V)),(pC n more).length<=n.length+more.length
 | [],n=>by show n.length<=n.length+0;omega
 | p::r,n=>by
  have h1:=lJ r (putK n p.1 p.2)
  have h2:=qp n p.1 p.2
  show (pC (putK n p.1 p.2) r).length<=_
  rw [zG];omega
theorem sO:∀{n:List (Key × V)} {ws:List (Value × Value)},VV (n.map λB=>(kV B.1,B.2)) ws->∃z,Carries (fX P w) ws z/\KV n z
 | [],_,r=>by rw [List.map_nil] at r;cases r;exact ⟨[],True.intro,.nil⟩
 | p::n,_,r=>by
  rw [yb] at r
  cases r with
  | @cons a b as bs h t=>
   obtain ⟨z,c,q⟩:=sO (P:=P) (w:=w) t
   obtain ⟨b1,b2⟩:=b
   exact ⟨(p.1,b2)::z,⟨Gq h.1,rfl,c⟩,.cons ⟨rfl,h.2⟩ q⟩
def aaa (z:List (TE × TE)):TE:=λσ H Q=>∀p,H p=none->DW z σ (upd H p (.dK [])) λps H2=>H2 p=some (.dK [])/\∃n:List (Key × V),ps=n.map (λB=>(kV B.1,B.2))/\n.length<=15/\Q (.ref p) (upd H2 p (.dK (pC [] n)))
theorem Rg {n:List (Option Expr)} {B:List Expr} {D:List (TE × TE)} (h:PPs X pos n B D) (O:n.all (·.isSome)=true) (hl:n.length=B.length) (h0:n≠[])
  (Y:n.length<=15):PE X (.Dict n B pos) (aaa D):=by
 intro pins s σ H Q I q
 have hn:=I.hok.fresh (zx s.heap.objs.size)
 have I1:=I.laid (a:=s.heap.objs.size) (o:=.dK []) (h':=s.heap.push { cls:=.type "dict",data:=.dict #[] }) (t':=s.toks) (λ_ _ q=>zu _ q) (zx _) (Bo s.heap I.big)
 refine wpAny_Dict_walk (knd:=fX X.prog X.w) O hl h0 Y (bu (h pins _ σ _ _ I1 (q _ hn)) λws s2 zq=>?_)
 obtain ⟨ps,H2,Z,U,e,J,ep,lk,q2⟩:=zq
 subst ep
 obtain ⟨rs,c,rk⟩:=sO (P:=X.prog) (w:=X.w) U
 obtain ⟨z,hd,vs0,r0,dd⟩:=Z9 Z.hok e
 cases r0
 refine ⟨rs,c,dd,λh' Ur hs=>⟨.ref s.heap.objs.size,_,?_,rfl,q2⟩⟩
 have hz:(pC [] J).length<=sizeLine:=by
  have h1:=lJ J []
  rw [xB] at h1
  rw [xn];omega
 have he:∃q,h'.get? s.heap.objs.size=some q:=let ⟨q,_,_,hq,_⟩:=Ur;⟨q,hq⟩
 exact Rc Z (by rw [e];exact True.intro) hs he (Wi hz hd (rk.merge .nil) Ur)
abbrev Wk (I D:TE) (n:List (Key × V)) (B:St) (H:Hp) (Q:List (Key × V)->Hp->Prop):Prop:=I B H λy O=>D B O λz J=>∃k,y=kV k/\Q (putK n k z) J
abbrev Rh (z n:Expr) (p:Pos) (D:Addr) (env:Env):Sem Unit:=do
 let kv <-eval z env
 let vv <-holding [kv] (eval n env)
 standAt p
 holding [kv,vv] (dictSet D kv vv)
theorem Ri {Y:Cx} {kx vx:Expr} {tk tv:TE} {p:Pos} (hk:PE Y kx tk) (hv:PE Y vx tv):Q_ Y HO.dK List.length (Wk tk tv) (Rh kx vx p):=by
 intro D oD pl σ H s n M I hd hz q
 refine zd (bu (hk _ s σ H _ I q) λyk s9 O=>?_)
 obtain ⟨zk,H9,I9,r9,q9⟩:=O
 refine zd (zU (bu (hv _ s9 σ H9 _ I9 q9) λyv sA O=>?_))
 obtain ⟨Z,HA,IA,rA,J,ek,qA⟩:=O
 subst ek
 obtain ⟨eD,_⟩:=IA.pin (D,oD) (by simp)
 obtain ⟨_,hm,vs,rv,dd⟩:=hd HA sA.heap eD
 refine zd (xq (zU (wpAny_dictSet_pairs (hsz:=by rw [<-rv.length];exact xp hz) (Gq r9) dd λh' Ur hs=>?_)))
 obtain ⟨o',es,ep,B,hx,U,_⟩:=id Ur
 exact ⟨putK n J Z,o',HA,sA,h',_,IA,qA,rfl,B,λH h e=>⟨by have:=qp n J Z;omega,hm,stored vs J yv,rv.put J rA,Ur.at λo e'=>by rw [B] at e';cases e';exact e⟩,(λv z=>by rw [U] at z;cases z),λb o hb e=>(hs.2 b hb).trans e⟩
def Wl (k:Nat) (n:TI) (g:TG) (B:TT) (D z:TE):TE:=pq HO.dK List.length [] (Wk D z) k n g B
theorem Bp {X:Cx} {n:Scope} {N:List Str} {k:Nat} {i:Nat} {x:Str} {Z Y B U:Expr} {J:List Expr} {pos O I:Pos} {wi:TI} {g:TG} {tt:TT} {tk tv:TE} (hN:X.N.Nodup) (hi':X.N[i]? = some x) (hx:Loc X.env.scope x)
  (S:aU X n N k) (hc:X.calm=true) (hi:PI X U B wi)
  (hg:∀C s H fp,PG (bz X n N C s H fp) U g) (ht:∀C s H fp,v9 (bz X n N C s H fp) J tt) (hk:∀C s H fp,PE (bz X n N C s H fp) Z tk) (hv:∀C s H fp,PE (bz X n N C s H fp) Y tv)
  (hsw:swapsWith (.DictComp Z Y [⟨U,B,J,0⟩] n I) (some (.Name x O)) pos.line X.env=pure true)
  (hs:∀x,foldedSetIterable B X.env x=pure x) (hf:X.fn x=true\/X.env.scope.names.lookup x=some .local) :
  PS X (.Assign [.Name x O] (.DictComp Z Y [⟨U,B,J,0⟩] n I) pos) (JZ (Wl k wi g tt tk tv) (Av i)):=
 qm (Ty:="dict") (d0:=.dict #[])
  ⟨rfl,codeAny_compStart_dict,λit D env=>⟨_,yd (Sem.onRaise · λx=>do noteFrame x env;theTreesLotGoes x) (compTurn_dict Z Y U B J n I it D env)⟩,λ_ _ _ _=>rfl,rfl,by size_fits,(λv z=>by cases z),
   λD H h hD e=>⟨yu _,hD,[],.nil,_,#[],0,e,⟨rfl,rfl,rfl⟩,rfl,by intro x hx;simp at hx,.nil,x6⟩⟩
  (λu=>by rw [arm_evalThenUse_DictComp];rfl) hN hi' hx S hc hi hg ht (λC s H fp _=>Ri (hk C s H fp).xe (hv C s H fp).xe) hsw hs hf
def Itv (K:PySem.W.Frag) (a:Addr) (n:Nat):It:=
 ⟨λi H=>∃xs x,iV K H a xs/\xs.length=n/\i<n/\xs[n - 1 - i]? = some x,λi H x H'=>H'=H/\∀xs,iV K H a xs->xs[n - 1 - i]? = some x,λi H=>n=i⟩
theorem KQ {P:Program} {w:World} {K:PySem.W.Frag} {tg:Expr} (a:Addr) (n:Nat) (D:Addr):Turn P w K tg (Itv K a n) [D] D (λi h=>i<=n/\h.IsRevIter D a ((n:Int) - 1 - (i:Int))):=
 nu (n:="list_reverseiterator") (by decide) (λi h st=>by obtain ⟨_,o,e,c,d⟩:=st;exact ⟨o,_,e,c,d⟩) (λi h h' st k=>⟨st.1,st.2.at k⟩)
  (λX U J Y hc i pins s σ H E Q I st O q=>by
   subst U J Y
   obtain ⟨xs,x,hq,hn,hi,Z⟩:=O
   obtain ⟨its,rv,p,hz⟩:=I.list hq
   obtain ⟨u,hu,ru⟩:=rv.get Z
   have z:=st.2
   rw [show (n:Int) - 1 - (i:Int)=((n - 1 - i:Nat):Int) by omega] at z
   refine wpAny_pyNext_rev_item z p.isList (x:=u) (by simpa using hu) λh' B sb=>q u x h' s.toks ru ⟨rfl,λys hy=>by rw [I.rW hy hq];exact Z⟩ ⟨hi,?_⟩ λb o hb e=>(sb.2 b hb).trans e
   rw [show (n:Int) - 1 - ((i+1:Nat):Int)=((n - 1 - i:Nat):Int) - 1 by omega]
   exact B)
  (λX U J Y hc i pins s σ H E Q I st O q=>by
   subst U J Y
   have z:=st.2
   rw [show (n:Int) - 1 - (i:Int) = -1 by have:n=i:=O;omega] at z
   exact wpAny_pyNext_rev_end (I.ok.hd hc) z q)
  λ_ _ _ _ _ st h=>wpAny_pyIter_revIter st.2 h
section
variable {X:Cx} {K:PySem.W.Frag}
def aab (K:PySem.W.Frag) (n:TA):TI:=λσ H R=>n σ H λvs H1=>∃a xs,vs=[.ref a]/\iV K H1 a xs/\R (Itv K a xs.length) H1
theorem Wm {a:Expr} {D:TA} {U:Expr} {p2 n:Pos} (hg:Gl X "reversed") (hm:X.mg "reversed"=none) (ha:PA X [a] D) (hs:starEach [a] X.env=[(false,eval a X.env)]:=by rfl) :
  PI X U (.Call (.Name "reversed" p2) [a] [] n) (aab X.K D):=by
 intro pins s σ H R I h
 refine Call_ (gM (u:=.type "reversed") I hg hm (by kernel_rfl) (zW (bu (ha n pins s σ H _ I h) λus z ⟨vs,H1,O,Z,q1⟩=>?_) hs rfl))
 obtain ⟨l,xs,e,hq,q⟩:=q1
 subst e
 cases Z with
 | cons r rr=>
  cases rr
  cases r
  obtain ⟨B,Y,p,hz⟩:=O.list hq
  refine call_reversed_list p.isList ?_
  have e1:((B.toArray.size:Nat):Int) - 1=(xs.length:Int) - 1 - ((0:Nat):Int):=by rw [zC,<-Y.length];simp
  rw [e1]
  have J:(z.heap.push (revObj l ((xs.length:Int) - 1 - ((0:Nat):Int)))).IsRevIter z.heap.objs.size l ((xs.length:Int) - 1 - ((0:Nat):Int)):=⟨_,zz _ rfl,rfl,rfl⟩
  exact wpAny_pyIter_revIter (s:={ z with heap:=z.heap.push (revObj l ((xs.length:Int) - 1 - ((0:Nat):Int))) }) J (J0 O (KQ l xs.length) ⟨yu _,J⟩ q)
theorem Rj {n:Pos} (h:X.K=K) (D:Gl X "reversed") (B:X.mg "reversed"=none) (I:PA X [a] ta) (z:starEach [a] X.env=[(false,eval a X.env)]:=by rfl) :
  PI X tg (.Call (.Name "reversed" n) [a] [] pos2) (aab K ta):=by subst h;exact Wm D B I z
end
end L2
namespace L2
open PySem PySem.Spec PyProof.Rows Builtin Builtin.Str
section
variable {X:Cx} {K:PySem.W.Frag}
theorem uZ:∀{ts:List Str} {n:List Value},Vals (ts.map V.str) n->∃l:List (Str × Tok),n=strValues l/\l.map (·.1)=ts
 | [],_,r=>by cases r;exact ⟨[],rfl,rfl⟩
 | t::ts,_,r=>by
  cases r with
  | cons h r=>
   obtain ⟨u,rfl⟩:=h
   obtain ⟨l,e1,e2⟩:=uZ r
   exact ⟨(t,u)::l,by rw [e1];rfl,by rw [<-e2];rfl⟩
theorem u5:∀(l:List (Str × Tok)),Vals ((l.map (·.1)).map V.str) (strValues l)
 | []=>.nil
 | p::l=>.cons ⟨p.2,rfl⟩ (u5 l)
def rJoin (K:PySem.W.Frag):V->List V->Hp->VK->Prop:=λx vs H Q=>∃(sep:Str) (a:Addr) (ts:List Str),x=.str sep/\vs=[.ref a]/\iV K H a (ts.map V.str)/\JoinOk sep ts=true/\Q (.str (Txt.join sep ts)) H
theorem Rk:Uq X "str.join" (rJoin X.K):=by
 intro pins s σ H x vs v U Q I n z h
 obtain ⟨sep,a,ts,rfl,rfl,O,ok,q⟩:=h
 obtain ⟨t,rfl⟩:=n
 obtain ⟨u,rfl,B⟩:=z.one
 cases B
 obtain ⟨J,D,pl,Z⟩:=I.list O
 obtain ⟨l,rfl,e⟩:=uZ D
 exact SC.join pl.isList e ok λY k=>⟨.str _,H,I.tok _,⟨_,rfl⟩,q⟩
theorem KR (h:X.K=K):Uq X "str.join" (rJoin K):=by subst h;exact Rk
theorem Bq {s:Shared} {x y:Str} (B:(y.length == 0)=false) (hsz:x.length<=100000)
  (z:∀(l:List (Str × Tok)) (k:Nat),l.map (·.1)=Txt.split x y->Q (.ref s.heap.objs.size) { s with toks:=k,heap:=s.heap.push { cls:=.type "list",data:=.seq (strValues l).toArray } }) :
  wpAny (model prog w) A (call (.builtin "str.split") [.str x t,.str y u]) Q E s:=by
 have D:x.length<=sizeLine:=zY hsz (by decide)
 cases h1:(decide (x.length<y.length) || decide (strKind x<strKind y))
 ·cases hf:(occurrences x y 0 x.length (x.length+1)).isEmpty
  ·have I:(partsBetween x (occurrences x y 0 x.length (x.length+1)) y.length).length<=sizeLine:=by
    have h2:=StrLaws.occ_length_le x y 0 x.length (x.length+1)
    rw [StrLaws.partsBetween_eq]
    have h3:∀(n:List Nat) (a:Nat),(StrLaws.partsFrom x y.length a n).length=n.length+1:=λn=>by
     induction n with
     | nil=>intro a;rfl
     | cons c r ih=>intro a;show (StrLaws.partsFrom x y.length (c+y.length) r).length+1=r.length+1+1;rw [ih]
    rw [h3,xn];omega
   refine x9 F.slot_str_split (typeIs_str _ _ _) F.entry_str_split (F.args_str_split_2 _ _) (meets_str_split_sep x y t u h1 B hf D I) ?_
   show wants Q E _ { s with toks:=_,heap:=s.heap.push { cls:=.type "list",data:=.seq (strsFrom s.toks (partsBetween x (occurrences x y 0 x.length (x.length+1)) y.length)).toArray } }
   rw [strsFrom_eq]
   exact z (numbered s.toks _) _ ((numbered_texts _ _).trans ((zh (ne_true_of_eq_false h1)).trans (zh (ne_true_of_eq_false hf))).symm)
  ·exact x9 F.slot_str_split (typeIs_str _ _ _) F.entry_str_split (F.args_str_split_2 _ _) (meets_str_split_not_found x y t u h1 B hf) (z [(x,t)] s.toks ((zh (ne_true_of_eq_false h1)).trans (zo hf)).symm)
 ·exact x9 F.slot_str_split (typeIs_str _ _ _) F.entry_str_split (F.args_str_split_2 _ _) (meets_str_split_cannot_occur x y t u h1) (z [(x,t)] s.toks (zo h1).symm)
def Wn:V->List V->Hp->VK->Prop:=λx vs H Q=>∃(z y:Str),x=.str z/\vs=[.str y]/\(y.length == 0)=false/\z.length<=100000/\(Txt.split z y).length<=100000/\∀l,H l=none->Q (.ref l) (upd H l (.lst ((Txt.split z y).map V.str)))
theorem KY:Uq X "str.split" Wn:=by
 intro pins s σ H x vs v Y Q I B D h
 obtain ⟨z,y,rfl,rfl,U,O,n,q⟩:=h
 obtain ⟨t,rfl⟩:=B
 obtain ⟨u,rfl,J⟩:=D.one
 obtain ⟨t',rfl⟩:=J
 refine Bq U O λl k e=>?_
 rw [<-e] at n q
 rw [z9] at n
 exact ⟨.ref _,_,I.laid (t':=k) (λb o e=>zu _ e) (zx _) (show bK X.prog X.w _ _ _ (.lst _) from ⟨by rw [z9,z9,xn];omega,strValues l,0,u5 l,zz _ rfl⟩),rfl,q _ (I.hok.fresh (zx _))⟩
def Its (x:Str):It:=⟨λi _=>i<x.cps.size,λi H v H'=>H'=H/\∃c,x.cps[i]? = some c/\v=.str ⟨#[c]⟩,λi _=>x.cps.size<=i⟩
theorem KZ {P:Program} {w:World} {Z:Expr} (x:Str) (t:Tok) (B:Addr):Turn P w K Z (Its x) [B] B (λi h=>h.IsStrIter B "str_ascii_iterator" x t i):=
 nu (n:="str_ascii_iterator") (by decide) (λi h st=>by obtain ⟨o,e,c,d⟩:=st;exact ⟨o,_,e,c,d⟩) (λi h h' st k=>by obtain ⟨o,ho,r⟩:=st;exact ⟨o,k o ho,r⟩)
  (λX O D U Y i pins s σ H E Q I st J q=>by
   subst O D U
   have hi:i<x.cps.size:=J
   exact wpAny_pyNext_ascii_item st (c:=x.cps[i]) (by simp [hi]) λh' z sb=>q _ (.str ⟨#[x.cps[i]]⟩) h' (s.toks+1) ⟨_,rfl⟩ ⟨rfl,_,by simp [hi],rfl⟩ z λb o hb e=>(sb.2 b hb).trans e)
  (λX O D U Y i pins s σ H E Q I st J q=>by
   subst O D U
   have hi:x.cps.size<=i:=J
   exact wpAny_pyNext_ascii_end (I.ok.hd Y) st (by simp;omega) q)
  λ_ _ _ _ _ st h=>wpAny_pyIter_striter_ascii st h
def adf (n:TE):TI:=λσ H R=>n σ H λv H1=>∃x,v=.str x/\x.cps.all (·<128)=true/\R (Its x) H1
theorem Wo (B:PE X l tl):PI X tg l (adf tl):=by
 intro pins s σ H R I h
 refine bu (B pins s σ H _ I h) λv U n=>?_
 obtain ⟨O,H1,J,z,q1⟩:=n
 obtain ⟨x,rfl,D,q⟩:=q1
 obtain ⟨t,rfl⟩:=z
 exact wpAny_pyIter_ascii D (J0 J (KZ x t) ⟨_,zz _ rfl,rfl,rfl⟩ q)
end
end L2
namespace L2
open PySem PySem.Spec PyProof.Rows
section
variable {P:Program} {w:World} {H:Hp} {h:Heap} {a:Addr} {o:HO}
theorem bK.ex (x:bK P w H h a o):∃ob,h.get? a=some ob:=by
 induction o with
 | lst xs=>obtain ⟨_,_,_,_,e⟩:=x;exact ⟨_,e⟩
 | tup xs=>obtain ⟨_,_,_,o,e,_⟩:=x;exact ⟨_,e⟩
 | dK kvs=>obtain ⟨_,_,_,_,o,_,_,e,_⟩:=x;exact ⟨_,e⟩
 | ins C dx fs=>obtain ⟨_,_,_,e,_⟩:=x;exact ⟨_,e⟩
 | own y=>exact x
 | Dj ob u ih=>exact ⟨_,x.1⟩
 | ext φ=>exact x.2.1
end
def Trc (h₀:Heap) (n:Hp) (a C:Addr) (h:Heap):Prop:=
 n a=none/\h₀.get? a=none/\∃oe vs T oT ts,h.get? a=some oe/\oe.cls=.ref C/\oe.data=.fields vs/\vs[1]? = some (.ref T)/\T≠a/\h₀.get? T=none/\n T=none/\h.get? T=some oT/\oT.data=.fields ts/\ts[3]? = some .none
section
variable {M:Model} {A:Around} {E:Value->Shared->Prop} {s:Shared} {base:Heap} {env:Env} {outer:List Env} {L e T:Addr} {oe oT:Obj} {vs ts:Array Value} {Q:Unit->Shared->Prop}
structure Note (fs ex:List Addr) (h h':Heap):Prop where
 keep:∀b o,h.get? b=some o->b ∉ ex->b ∉ fs->h'.get? b=some o
 slot:∀b o,h.get? b=some o->b∈fs->∃sl,h'.get? b=some { o with slots:=sl }
theorem DX:∀env∈l,∀b,env.frame=some b->b∈frs l:=λenv n b z=>List.mem_filterMap.mpr ⟨env,n,z⟩
theorem DY (U:A.frames=some (env::outer)) (hl:s.heap.FunFrames base (env::outer)) (hf:env.frame=some L) (he:s.heap.get? e=some oe) (hd:oe.data=.fields vs) (h1:vs[1]? = some (.ref T)) (hTe:T≠e)
  (hT:s.heap.get? T=some oT) (Y:oT.data=.fields ts) (h3:ts[3]? = some .none)
  (h:∀h',Note (frs (env::outer)) [e,T] s.heap h'->(∃n B J I D,h'.get? e=some n/\n.cls=oe.cls/\n.data=.fields B/\B[1]? = some (.ref J)/\J≠e/\(s.heap.get? J=none\/J=T)/\h'.get? J=some I/\I.data=.fields D/\D[3]? = some .none)->Q () { s with heap:=h' }) :
  wpAny M A (leaving env (.ref e)) Q E s:=by
 have m1:e∈e::T::frs (env::outer):=zt
 have m2:T∈e::T::frs (env::outer):=zn _ zt
 refine wpAny_leaving_next (base:=PySem.W.hideAll s.heap (e::T::frs (env::outer))) (cls:=oe.cls) U (PySem.W.funFrames_hide hl λenv he b Z=>zn _ (zn _ (DX env he b Z))) hf
  ⟨oe,vs,T,oT,ts,he,rfl,hd,h1,yU _ m2,hTe,hT,Y,h3⟩ (λb o q=>PySem.W.of_hideAll _ q) (yU _ m1) λh' ⟨x1,x2,x3,x4⟩=>h h' ⟨λb o q n1 n2=>?_,λb o q Z=>?_⟩ ?_
 ·refine x1 b o (yL _ q λz=>?_)
  rcases zm.mp z with z|z
  ·exact n1 (by rw [z];exact zt)
  rcases zm.mp z with z|z
  ·exact n1 (by rw [z];exact zn _ zt)
  exact n2 z
 ·obtain ⟨_,o',q',O⟩:=hl.mem Z
  rw [q] at q';cases q'
  exact x4 b o q O
 ·obtain ⟨n,B,J,I,D,a1,a2,a3,a4,a5,a6,a7,a8,a9⟩:=x3
  refine ⟨n,B,J,I,D,a1,a2,a3,a4,a6,?_,a7,a8,a9⟩
  by_cases z:J=T
  ·exact .inr z
  ·refine .inl ?_
   cases q:s.heap.get? J with
   | none=>rfl
   | some o=>
    have:=yL (e::T::frs (env::outer)) q λy=>by
     rcases zm.mp y with y|y
     ·exact a6 y
     rcases zm.mp y with y|y
     ·exact z y
     obtain ⟨_,o',q',O⟩:=x2.mem y
     rw [a7] at q';cases q'
     exact O _ a8
    rw [a5] at this;cases this
theorem Br (U:A.frames=some (env::outer)) (Z:s.heap.FunFrames base (env::outer)) (hf:env.frame=some L) (he:s.heap.get? e=some oe) (hd:oe.data=.fields vs) (h1:vs[1]? = some .none)
  (h:∀h',Note (frs (env::outer)) [e] s.heap h'->(∃n B J I D,h'.get? e=some n/\n.cls=oe.cls/\n.data=.fields B/\B[1]? = some (.ref J)/\J≠e/\s.heap.get? J=none/\h'.get? J=some I/\I.data=.fields D/\D[3]? = some .none)->Q () { s with heap:=h' }) :
  wpAny M A (leaving env (.ref e)) Q E s:=by
 have m1:e∈e::frs (env::outer):=zt
 refine wpAny_leaving_first (base:=PySem.W.hideAll s.heap (e::frs (env::outer))) U (PySem.W.funFrames_hide Z λenv he b Y=>zn _ (DX env he b Y)) hf he
  (λb o q=>PySem.W.of_hideAll _ q) (yU _ m1) hd h1 λh' ⟨x1,x2,x3,x4⟩=>h h' ⟨λb o q n1 n2=>?_,λb o q Y=>?_⟩ ?_
 ·refine x1 b o (yL _ q λz=>?_)
  rcases zm.mp z with z|z
  ·exact n1 (by rw [z];exact zt)
  exact n2 z
 ·obtain ⟨_,o',q',O⟩:=Z.mem Y
  rw [q] at q';cases q'
  exact x4 b o q O
 ·obtain ⟨n,B,J,I,D,a1,a2,a3,a4,a5,a6,a7,a8,a9⟩:=x3
  refine ⟨n,B,J,I,D,a1,a2,a3,a4,a6,?_,a7,a8,a9⟩
  cases q:s.heap.get? J with
  | none=>rfl
  | some o=>
   have:=yL (e::frs (env::outer)) q λy=>by
    rcases zm.mp y with y|y
    ·exact a6 y
    obtain ⟨_,o',q',O⟩:=x2.mem y
    rw [a7] at q';cases q'
    exact O _ a8
   rw [a5] at this;cases this
end
def oY (P:Program) (w:World):Ik:=λouter H s E e s'=>∃a C H',e=.ref a/\s'.os=s.os/\AllBare s'.gens/\Un (frs outer) [] H H' s.heap s'.heap/\jG P w H' s'.heap/\Trc s.heap H' a C s'.heap/\E (.ref C) none H'
section
variable {P:Program} {w:World} {K:PySem.W.Frag} {mg:Str->Option Value} {base:Heap} {N:List Str} {qual:Str} {scope:Scope} {f:Addr} {cd:Value} {A:Around} {outer:List Env} {s₀:Shared} {H₀:Hp} {E₀:XK}
theorem q_ {X:Cx} {σ:St} {s':Shared} {ex:List Addr} (hs:X.stack=X.env::X.outer) (hL:X.env.frame=some X.env.locals) (hx:X.ex=[]) (I:Inv X pins σ H' s') (n:Note (frs X.stack) ex s'.heap h')
  (new:∀b∈ex,X.s₀.heap.get? b=none/\H' b=none):Un (frs X.outer) [] X.H₀ H' X.s₀.heap h'/\jG X.prog X.w H' h':=by
 have U:=I.base
 have nol:∀b o,X.s₀.heap.get? b=some o->b ∉ frs X.outer->b ∉ frs X.stack:=λb o q n1 z=>by
  rcases zm.mp (I.lR b z) with y|y
  ·have l1:=zA q
   have l2:=I.ok.above
   rw [<-y] at l2
   exact absurd (zE l1 l2) (xi _)
  ·exact n1 y
 have O:∀b o,X.s₀.heap.get? b=some o->b ∉ ex:=λb o q z=>by rw [(new b z).1] at q;cases q
 have B:∀b:Addr,b ∉ X.ex:=λb z=>by rw [hx] at z;cases z
 refine ⟨⟨λb o q J n1 _=>n.keep b o (U.keep b o q J n1 (B b)) (O b o q) (nol b o q n1),λb o q J D _=>?_,λb o q J _=>U.free b o q J (B b),λb o q _=>?_,U.o6⟩,λa o q=>?_⟩
 ·obtain ⟨sl,e1⟩:=U.slot b o q J D (B b)
  have hb':b∈frs X.stack:=by
   rw [hs]
   show b∈List.filterMap _ (X.env::X.outer)
   rw [List.filterMap_cons,hL]
   exact zn _ D
  obtain ⟨Y,e2⟩:=n.slot b _ e1 hb'
  exact ⟨Y,e2⟩
 ·obtain ⟨Z,e1⟩:=U.there b o q (B b)
  by_cases D:b∈frs X.stack
  ·obtain ⟨sl,e2⟩:=n.slot b Z e1 D
   exact ⟨_,e2⟩
  ·exact ⟨Z,n.keep b Z e1 (O b o q) D⟩
 ·refine (I.hok a o q).stay (λb u D e1=>?_) λ_ z=>z
  have ht:H' b≠none:=by
   rcases D with rfl|D
   ·rw [q];intro z;cases z
   ·rw [D];intro z;cases z
  exact n.keep b u e1 (λz=>ht (new b z).2) λz=>ht (I.qW b z)
theorem D_ {D:List (Addr × Obj)} {σ:St} {H U:Hp} {s s':Shared} {a C:Addr} (I:Inv (fM (oY P w) P w K mg base N qual scope f cd A outer s₀ H₀ E₀) D σ H s)
  (J:Inv (fM (oY P w) P w K mg base N qual scope f cd A outer s₀ H₀ E₀) D σ U s') (t:Trc s.heap U a C s'.heap) (q:E₀ (.ref C) none U):(fM (oY P w) P w K mg base N qual scope f cd A outer s₀ H₀ E₀).xe (.ref a) s':=by
 obtain ⟨t0,t1,oe,vs,T,oT,ts,a1,a2,a3,a4,a5,a6,a7,a8,a9,a10⟩:=t
 have B:∀b,s.heap.get? b=none->s₀.heap.get? b=none:=λb z=>by
  cases y:s₀.heap.get? b with
  | none=>rfl
  | some o=>obtain ⟨_,e⟩:=I.base.there b o y (by intro z;cases z);rw [z] at e;cases e
 have O:∀b,s'.heap.get? b=none->s₀.heap.get? b=none:=λb z=>by
  cases y:s₀.heap.get? b with
  | none=>rfl
  | some o=>obtain ⟨_,e⟩:=J.base.there b o y (by intro z;cases z);rw [z] at e;cases e
 refine DY (base:=base) J.ok.frames J.stack rfl a1 a3 a4 a5 a8 a9 a10 λh' n zq=>?_
 obtain ⟨oe',Y,T',oT',Z,b1,b2,b3,b4,b5,b6,b7,b8,b9⟩:=zq
 obtain ⟨un,hok⟩:=q_ rfl rfl rfl J n (λb hb=>by
  rcases zm.mp hb with rfl|hb
  ·exact ⟨B _ t1,t0⟩
  ·rw [zr.mp hb];exact ⟨B _ a6,a7⟩)
 refine ⟨a,C,U,rfl,J.os,J.bare,un,hok,⟨t0,B _ t1,oe',Y,T',oT',Z,b1,by rw [b2,a2],b3,b4,b5,?_,?_,b7,b8,b9⟩,q⟩
 ·rcases b6 with z|z
  ·exact O _ z
  ·rw [z];exact B _ a6
 ·rcases b6 with z|z
  ·cases y:U T' with
   | none=>rfl
   | some o=>obtain ⟨_,e⟩:=(J.hok _ _ y).ex;rw [z] at e;cases e
  ·rw [z];exact a7
theorem Bs {B:List (Addr × Obj)} {σ:St} {H:Hp} {s s':Shared} {a C t:Addr} {args:List Value} (I:Inv (fM (oY P w) P w K mg base N qual scope f cd A outer s₀ H₀ E₀) B σ H s)
  (m:Heap.MadeExcOf s.heap s'.heap a (.ref C) args) (hs:s'={ s with heap:=s'.heap }) (q:E₀ (.ref C) none H):(fM (oY P w) P w K mg base N qual scope f cd A outer s₀ H₀ E₀).xe (.ref a) s':=by
 obtain ⟨t,a1,a2,a3⟩:=m.there
 have D:Inv (fM (oY P w) P w K mg base N qual scope f cd A outer s₀ H₀ E₀) B σ H s':=by rw [hs];exact I.kept (t':=s.toks) m.keeps
 have ht:H a=none:=by
  cases y:H a with
  | none=>rfl
  | some o=>obtain ⟨_,e⟩:=(I.hok _ _ y).ex;rw [m.new] at e;cases e
 have O:∀b,s.heap.get? b=none->s₀.heap.get? b=none:=λb z=>by
  cases y:s₀.heap.get? b with
  | none=>rfl
  | some o=>obtain ⟨_,e⟩:=I.base.there b o y (by intro z;cases z);rw [z] at e;cases e
 have J:∀b,s'.heap.get? b=none->s₀.heap.get? b=none:=λb z=>by
  cases y:s₀.heap.get? b with
  | none=>rfl
  | some o=>obtain ⟨_,e⟩:=D.base.there b o y (by intro z;cases z);rw [z] at e;cases e
 refine Br (base:=base) D.ok.frames D.stack rfl a1 rfl rfl λh' n zq=>?_
 obtain ⟨Z,U,T',oT',Y,b1,b2,b3,b4,b5,b6,b7,b8,b9⟩:=zq
 obtain ⟨un,hok⟩:=q_ rfl rfl rfl D n (λb hb=>by rw [zr.mp hb];exact ⟨O _ m.new,ht⟩)
 refine ⟨a,C,H,rfl,D.os,D.bare,un,hok,⟨ht,O _ m.new,Z,U,T',oT',Y,b1,b2,b3,b4,b5,J _ b6,?_,b7,b8,b9⟩,q⟩
 cases y:H T' with
 | none=>rfl
 | some o=>obtain ⟨_,e⟩:=(D.hok _ _ y).ex;rw [b6] at e;cases e
end
abbrev Gr:List Value:=[.type "ValueError",.type "Exception",.type "BaseException",.type "object"]
structure oZ (K:PySem.W.Frag) (mg:Str->Option Value) (x:Str) (C:Addr):Prop where
 m:mg x=some (.ref C)
 ok:PySem.W.excIn K C Gr "ValueError.__new__"=true
theorem oZ.own {K:PySem.W.Frag} {mg:Str->Option Value} {x:Str} {C:Addr} {h:Heap} (c:oZ K mg x C) (I:K.In h):OwnCls x C Gr "ValueError.__new__" mg h:=by
 have q:=c.ok
 refine ⟨c.m,?_⟩
 unfold PySem.W.excIn at q
 cases z:K.lookup C with
 | none=>rw [z] at q;cases q
 | some o=>
  rw [z] at q
  obtain ⟨oc,dd,od,sl⟩:=o
  split at q
  ·rename_i Ur cd sl' eo
   cases (eo)
   obtain ⟨l⟩:=sl
   split at q
   ·rename_i C' bm k0 k1 k2 k3 n k5 em es
    obtain ⟨nm,bs,O,ns,J,hd,sn,D,ab,col,Z⟩:=cd
    simp only [yy,beq_iff_eq,xv] at q em es
    obtain ⟨⟨⟨⟨⟨e1,e2⟩,e3⟩,Y⟩,B⟩,U⟩:=q
    subst em e1 e2 e3 es
    exact ⟨bm,ns,nm,J,bs,hd,sn,D,ab,col,dd,k0,k1,k2,k3,k5,_,I _ _ z,.of_isNs (PySem.W.isNs_of_in I B),PySem.W.nsMap_none_of_in I B U,PySem.W.tail_of_in I Y⟩
   ·cases q
  ·cases q
section
variable {X:Cx} {CX:Ik} {k:Nat} {f:Addr} {fd:FuncData} {ps:List Str} {sp:Sp} {E:XK} {x:Str} {st:Stmt} {p pos np cpos:Pos} {e:Expr} {es:List Expr} {t:TA} {C:Addr} {G:Addr->St->Hp->Prop}
theorem wg {B:St} (F:bV X.prog X.w X.K X.mg X.base CX k f fd ps sp) (J:bO k X.A) (U:Binds X.K fd ps []) (I:Inv X pins B H s) (r:Vals vs us) (h:sp vs H Q E)
  (D:∀e s',CX X.stack H s E e s'->X.xe e s'):wpAny (model X.prog X.w) X.A (call (.ref f) us) (EP X pins B Q) X.xe s:=by
 have O:us.length=ps.length:=by rw [<-r.length];exact F.len _ _ _ _ h
 have z:=U s us I.rQ (by rw [zX];exact O)
 rw [zX] at z
 refine wpAny_call (codeAny_mono (F.run X.A X.stack s H ⟨us,[]⟩ us vs Q E J I.env0 z r h) λr s' n=>?_)
 match r,n with
 | .error e,n=>exact D e s' n
 | .ok (.ret u),n=>exact I.after n
def pD (X:Cx) (G:Addr->St->Hp->Prop):Prop:=∀(pins:List (Addr × Obj)) (σ:St) (H:Hp) (s:Shared) (H':Hp) (s':Shared) (a C:Addr),Inv X pins σ H s->Inv X pins σ H' s'->Trc s.heap H' a C s'.heap->G C σ H'->X.xe (.ref a) s'
def wj (X:Cx) (G:Addr->St->Hp->Prop):Prop:=∀(pins:List (Addr × Obj)) (σ:St) (H:Hp) (s s':Shared) (a C:Addr) (args:List Value),Inv X pins σ H s->Heap.MadeExcOf s.heap s'.heap a (.ref C) args->s'={ s with heap:=s'.heap }->G C σ H->X.xe (.ref a) s'
def Wq (sp:Sp) (G:Addr->St->Hp->Prop) (t:TA):TE:=λσ H Q=>t σ H λvs H1=>sp vs H1 Q λcl _ H'=>∃C,cl=.ref C/\G C σ H'
theorem K1 (D:aM X.K X.mg x st ps) (F:bV X.prog X.w X.K X.mg X.base (oY X.prog X.w) k D.f D.fd ps sp) (Y:bO k X.A) (lk:pD X G) (ha:PA X (e::es) t)
  (Z:Gl X x:=by rfl) (B:(x == ("__debug__":Str))=false:=by decide) (he:starEach (e::es) X.env=(false,eval e X.env)::starEach es X.env:=by rfl) (hpl:(backTo pos (starEach es X.env)).any (·.1)=false:=by rfl) :
  PE X (.Call (.Name x p) (e::es) [] pos) (Wq sp G t):=by
 intro pins s σ H Q I h
 refine yR (kh I Z D.m ?_ B)
 refine xd (h₀:=X.base) I.ok.mod.Qs D.F.kp (bu (ha pos pins s σ H _ I h) λus U ⟨vs,H1,n,r,q⟩=>⟨n.rQ,?_⟩) he hpl
 refine wg F Y D.b n r q λe s' J=>?_
 obtain ⟨a,C,H',e1,e2,e3,un,hok,O,C',e4,g⟩:=J
 subst e1
 cases e4
 exact lk pins σ H1 U H' s' a C n (n.call' e2 un hok e3 (λb z=>absurd z (by simp))) O g
def Wr (G:Addr->St->Hp->Prop) (C:Addr) (t:TA):TS:=λ_ σ H=>t σ H λvs H1=>vs.length<=sizeLine/\G C σ H1
theorem K3 (c:oZ X.K X.mg x C) (hc:X.calm=true) (lk:wj X G) (ha:PA X (e::es) t)
  (hg:Gl X x:=by rfl) (J:(x == ("__debug__":Str))=false:=by decide) (he:starEach (e::es) X.env=(false,eval e X.env)::starEach es X.env:=by rfl) (hpl:(backTo cpos (starEach es X.env)).any (·.1)=false:=by rfl) :
  PS X (.Raise (some (.Call (.Name x np) (e::es) [] cpos)) none pos) (Wr G C t):=by
 intro pins s σ H D I h
 have O:=c.own I.mod.Qs
 obtain ⟨m0,n0,z,q0,b0,d0,s0,u0,a0,c0,U,j0,j1,j2,j3,j5,f0,hC,hN,B,T⟩:=O.obj
 refine wpAny_Raise_call_subT (bm:=m0) (nm:=z) (q:=q0) (N:=n0) (bs:=b0) (hdct:=d0) (sn:=s0) (sub:=u0) (ab:=a0) (col:=c0) (dd:=U) (k0:=j0) (k1:=j1) (k2:=j2) (k3:=j3) (k5:=j5) (C:=C) F.excBase_ValueError (mN:=f0)
  (T.hasType F.excBase_ValueError.hasBase) (I.ok.hd hc) (by rw [he];show (false || (backTo cpos (starEach es X.env)).any (·.1))=false;rw [hpl];rfl) B (kh I hg c.m ⟨rfl,?_⟩ J)
 have Y:=ha cpos pins s σ H _ I h
 rw [he] at Y ⊢
 exact Calls.evalArgs_plain (xl Y (λus s2 Z=>by obtain ⟨vs,H2,n,r,hl,g⟩:=Z;exact ⟨rfl,by rw [<-r.length];exact hl,n.bk _ _ hC,hN.keeps n.bk,T.keeps n.bk,λh' a m=>lk pins σ H2 s2 _ a C us n m rfl g⟩) λ_ _ y=>y)
end
def K8 (a C:Addr):Heap->Prop:=λh=>∃o,h.get? a=some o/\o.cls=.ref C/\∃vs,o.data=.fields vs
abbrev XO (a C:Addr):HO:=.ext (K8 a C)
section
variable {X:Cx} {pins:List (Addr × Obj)} {σ σ':St} {H:Hp} {s:Shared} {h':Heap} {a C:Addr}
theorem Ea {h:Heap} {sl:Array (Option Value)} (z:h.IsCell c v) (e:h.get? c=some o) (n:h'.get? c=some { o with slots:=sl }):h'.IsCell c v:=by
 obtain ⟨B,h1,h2⟩:=z
 rw [e] at h1;cases h1
 exact ⟨_,n,h2⟩
theorem sS {ex:List Addr} (hs:X.stack=X.env::X.outer) (hL:X.env.frame=some X.env.locals) (Y:X.ex=[]) (I:Inv X pins σ H s) (n:Note (frs X.stack) ex s.heap h')
  (new:∀b∈ex,X.s₀.heap.get? b=none/\H b=none/\b≠X.env.locals/\(∀x c,X.env.cells.lookup x=some c->c≠b)/\∀p∈X.pn++pins,p.1≠b):Inv X pins σ H { s with heap:=h',toks:=t' }:=by
 obtain ⟨un,hok⟩:=q_ hs hL Y I n λb B=>⟨(new b B).1,(new b B).2.1⟩
 have D:Un X.fs X.ex X.H₀ H X.s₀.heap h':=by rw [Y];exact un
 have O:∀b o,s.heap.get? b=some o->b ∉ ex->∃sl,h'.get? b=some { o with slots:=sl }:=λb o q nb=>by
  by_cases B:b∈frs X.stack
  ·exact n.slot b o q B
  ·exact ⟨o.slots,n.keep b o q nb B⟩
 obtain ⟨m,hn,hl⟩:=I.loc
 have J:h'.Ns X.env.locals m:=by
  obtain ⟨o,es,ep,ho,hd,r⟩:=hn
  obtain ⟨sl,e⟩:=O _ o ho λz=>(new _ z).2.2.1 rfl
  exact ⟨_,es,ep,e,hd,r⟩
 have cl:∀x c v,X.env.cells.lookup x=some c->s.heap.IsCell c v->h'.IsCell c v:=λx c v e z=>by
  obtain ⟨o,h1,h2⟩:=id z
  obtain ⟨sl,e2⟩:=O c o h1 λy=>(new _ y).2.2.2.1 x c e rfl
  exact Ea z h1 e2
 refine ⟨I.ok,I.os,I.bare,D,⟨m,J,λi x v e1 e2 e3=>?_⟩,λx c e=>?_,I.free,I.fJ,λp Z=>?_,hok,I.len⟩
 ·obtain ⟨u,r,q⟩:=hl i x v e1 e2 e3
  refine ⟨u,r,?_⟩
  rcases q with q|⟨k,c,e,z⟩
  ·exact .inl q
  ·exact .inr ⟨k,c,e,cl x c _ e z⟩
 ·obtain ⟨v,z⟩:=I.cell x c e
  exact ⟨v,cl x c v e z⟩
 ·obtain ⟨e,nn,ne,U,d⟩:=I.pin p Z
  refine ⟨n.keep _ _ e (λz=>(new _ z).2.2.2.2 p Z rfl) λz=>?_,nn,ne,U,d⟩
  rcases zm.mp (I.lR _ z) with y|y
  ·exact ne y
  ·exact U y
theorem IK (I:Inv X pins σ H s) (hx:X.ex=[]) (U:H a=none) (h0:X.s₀.heap.get? a=none) (he:K8 a C s.heap) (Z:∀x c,X.env.cells.lookup x=some c->c≠a) (Y:∀p∈X.pn++pins,p.1≠a):Inv X pins σ (upd H a (XO a C)) s:=by
 have B:a≠X.env.locals:=λz=>by
  obtain ⟨m,⟨o,es,ep,n,hd,_⟩,_⟩:=I.loc
  obtain ⟨O,h1,_,vs,h3⟩:=he
  rw [<-z,h1] at n;cases n
  rw [h3] at hd;cases hd
 have D:a ∉ X.fs:=λz=>by
  obtain ⟨_,o,n,_⟩:=I.ok.jD.mem z
  rw [h0] at n;cases n
 have f:∀b∈[a],lz X pins H b:=λb J=>zr.mp J▸⟨U,B,D,.inr h0,Z,Y⟩
 refine I.moved (t':=s.toks) (h':=s.heap) f (λ_ _ _ e=>e) (λb J _=>aJ λz=>J (zr.mpr z)) (I.hok.track U ?_)
 obtain ⟨O,h1,h2⟩:=id he
 exact ⟨he,⟨O,h1⟩,λh1 h2 z k=>by obtain ⟨o,k1,k2⟩:=z;exact ⟨o,k o k1,k2⟩⟩
theorem K_ (I:Inv X pins σ H s) (Y:h'.Ns X.env.locals m') (B:Heap.SameBut X.env.locals s.heap h') (Z:σ'.length=σ.length)
  (h:∀(i:Nat) (x:Str) (v:V),X.N[i]? = some x->σ'[i]? = some (some v)->Vq X.env.scope x->∃u,RelV v u/\Look X.env h' m' x u):Inv X pins σ' H { s with heap:=h',toks:=t' }:=by
 have big:∀b o,X.s₀.heap.get? b=some o->b≠X.env.locals:=λb o e=>zH (zE (zA e) I.ok.above)
 refine ⟨I.ok,I.os,I.bare,⟨λb o e n J D=>(B.2 b (big b o e)).trans (I.base.keep b o e n J D),λb o e n J D=>?_,I.base.free,λb o e D=>?_,I.base.o6⟩,⟨m',Y,h⟩,λx c e=>?_,I.free,I.fJ,λp U=>?_,λb o q=>?_,by rw [Z];exact I.len⟩
 ·obtain ⟨sl,e1⟩:=I.base.slot b o e n J D
  exact ⟨sl,(B.2 b (big b o e)).trans e1⟩
 ·obtain ⟨o',e1⟩:=I.base.there b o e D
  exact ⟨o',(B.2 b (big b o e)).trans e1⟩
 ·obtain ⟨O,z⟩:=I.cell x c e
  exact ⟨O,z.sameBut B (I.Qt x c e)⟩
 ·obtain ⟨e,n,ne,r⟩:=I.pin p U
  exact ⟨(B.2 p.1 ne).trans e,n,ne,r⟩
 ·refine (I.hok b o q).stay (λc u hc e=>(B.2 c λz=>?_).trans e) λ_ e=>e
  rcases hc with y|y
  ·rw [<-y,z,I.free] at q;cases q
  ·rw [z,I.free] at y;cases y
theorem rm (I : Inv X pins σ H s) (hN : X.N.Nodup) (hi : X.N[i]? = some x) (D : X.env.scope.names.lookup x = some .local)
    (h : ∀ s', Inv X pins (σ.set i none) H s' → Q () s') : wpAny M A (do bindName X.env x .none; unbindBehindTheSuite X.env x pos) Q E s := by
  have hiσ : i < σ.length := by rw [I.len]; exact (zp.mp hi).1
  have hp : (X.env.scope.kind == .class || (X.env.scope.kind == .module && X.env.locals != X.env.globals)) = false := by rw [I.ok.kind]; rfl
  have Z : X.env.kindOf x = some .local := D
  refine zd (wpAny_bindName (j_ (i := i) (v := .non) I hN hi (.inl D) rfl (λs1 U _ => ?_) (.inr D)))
  obtain ⟨m, hn, Y⟩ := U.loc
  have n : (m x).isSome = true := by
    obtain ⟨u, _, q⟩ := Y i x .non hi (zF hiσ) (.inl D)
    rcases q with ⟨_, e⟩ | ⟨k, _⟩
    · rw [e]; rfl
    · rw [Z] at k; rcases k with k | k <;> cases k
  unfold unbindBehindTheSuite
  refine wpAny_onRaise ?_
  unfold unbindName
  refine zd (wpAny_point (zd ?_))
  unfold deleteName
  simp only [Z, hp]
  rw [zh (by decide)]
  refine zd (wpAny_nsDel_keeps hn λh2 v O B => ?_)
  rw [n]
  simp only [Bool.not_true, Bool.false_eq_true, if_false]
  refine zB (wpAny_point (h _ ?_))
  refine K_ (t' := s1.toks) (σ := σ.set i (some .non)) U O B (by simp) λj y w e1 e2 e3 => ?_
  by_cases J : j = i
  · subst J
    rw [zF hiσ] at e2; cases e2
  · rw [zi (Ne.symm J)] at e2
    obtain ⟨u, r, q⟩ := Y j y w e1 (by rw [zi (Ne.symm J)]; exact e2) e3
    refine ⟨u, r, ?_⟩
    rcases q with ⟨k, e⟩ | ⟨k, c, e, z⟩
    · have : y ≠ x := λe => J (rR hN e1 (e ▸ hi))
      exact .inl ⟨k, by simp [this, e]⟩
    · exact .inr ⟨k, c, e, z.sameBut B (U.Qt y c e)⟩
end
section
variable {M:Model} {A:Around} {E:Value->Shared->Prop} {s:Shared} {base:Heap} {env:Env} {outer:List Env} {L e T:Addr} {oe oT:Obj} {vs ts:Array Value} {Q:Unit->Shared->Prop}
theorem u6 (U:A.frames=some (env::outer)) (hl:s.heap.FunFrames base (env::outer)) (hf:env.frame=some L) (he:s.heap.get? e=some oe) (hd:oe.data=.fields vs) (h1:vs[1]? = some (.ref T)) (hTe:T≠e)
  (hT:s.heap.get? T=some oT) (Y:oT.data=.fields ts) (h3:ts[3]? = some .none)
  (h:∀h',Note (frs (env::outer)) [e,T] s.heap h'->(∃n B J I D fl,h'.get? e=some n/\n.cls=oe.cls/\n.data=.fields B/\B[1]? = some (.ref J)/\J≠e/\(s.heap.get? J=none\/J=T)/\h'.get? J=some I/\I.data=.fields D/\D[3]? = some fl)->Q () { s with heap:=h' }) :
  wpAny M A (noteFrame (.ref e) env) Q E s:=by
 have m1:e∈e::T::frs (env::outer):=zt
 have m2:T∈e::T::frs (env::outer):=zn _ zt
 have h0:∃a0,vs[0]? = some a0:=⟨_,Array.getElem?_eq_getElem (xb (by decide) (yr.mp h1).1)⟩
 obtain ⟨a0,h0⟩:=h0
 refine wpAny_noteFrame_onW (base:=PySem.W.hideAll s.heap (e::T::frs (env::outer))) (cls:=oe.cls) (a0:=a0) U (PySem.W.funFrames_hide hl λenv he b Z=>zn _ (zn _ (DX env he b Z))) hf
  ⟨oe,vs,T,oT,ts,he,⟨rfl,h0⟩,hd,h1,yU _ m2,hTe,hT,Y,h3⟩ (λb o q=>PySem.W.of_hideAll _ q) (yU _ m1) λh' ⟨x1,x2,x3,x4⟩=>h h' ⟨λb o q n1 n2=>?_,λb o q Z=>?_⟩ ?_
 ·refine x1 b o (yL _ q λz=>?_)
  rcases zm.mp z with z|z
  ·exact n1 (by rw [z];exact zt)
  rcases zm.mp z with z|z
  ·exact n1 (by rw [z];exact zn _ zt)
  exact n2 z
 ·obtain ⟨_,o',q',O⟩:=hl.mem Z
  rw [q] at q';cases q'
  exact x4 b o q O
 ·obtain ⟨n,B,J,I,D,a1,a2,a3,a4,a5,a6,a7,a8,a9⟩:=x3
  refine ⟨n,B,J,I,D,_,a1,a2.1,a3,a4,a6,?_,a7,a8,a9⟩
  by_cases z:J=T
  ·exact .inr z
  ·refine .inl ?_
   cases q:s.heap.get? J with
   | none=>rfl
   | some o=>
    have:=yL (e::T::frs (env::outer)) q λy=>by
     rcases zm.mp y with y|y
     ·exact a6 y
     rcases zm.mp y with y|y
     ·exact z y
     obtain ⟨_,o',q',O⟩:=x2.mem y
     rw [a7] at q';cases q'
     exact O _ a8
    rw [a5] at this;cases this
theorem qt (he:s.heap.get? e=some oe) (hd:oe.data=.fields vs) (h1:vs[1]? = some (.ref T)) (hT:s.heap.get? T=some oT) (n:oT.data=.fields ts) (h3:ts[3]? = some fl)
  (h:∀h',(∀b o,s.heap.get? b=some o->b≠T->h'.get? b=some o)->(∃oT' ts',h'.get? T=some oT'/\oT'.data=.fields ts'/\ts'[3]? = some .none)->Q () { s with heap:=h' }):wpAny M A (setFlight (.ref e) none) Q E s:=by
 have z:3<ts.size:=(yr.mp h3).1
 refine wpAny_setFlight_none he hd h1 hT n z (h _ (λb o q nb=>?_) ⟨_,_,Heap.get?_update_self _ hT (Obj.isFreed_of_fields (xc n _)),xc n _,by simp [z]⟩)
 rw [yN _ _ (Ne.symm nb)];exact q
theorem Bt {fs:List Addr} {h h':Heap} (k:∀b o,h.get? b=some o->b≠T->h'.get? b=some o) (B:T ∉ fs):Note fs [T] h h':=
 ⟨λb o q n _=>k b o q λz=>n (by rw [z];exact zt),λb o q D=>⟨o.slots,k b o q λz=>B (z▸D)⟩⟩
end
section
variable {X:Cx}
theorem sU {M:Model} {A:Around} {E:Value->Shared->Prop} {K:PySem.W.Frag} {mg:Str->Option Value} {x:Str} {C D e:Addr} {B:Obj} {h:Heap} {g:Array GenState} {d:Drawn} {t:Nat} {os:OsState} {Q:Bool->Shared->Prop} (I:K.In h)
  (c:oZ K mg x D) (sub:PySem.W.subIn K (.ref C) (.ref D)=some true) (he:h.get? e=some B) (n:B.cls=.ref C) (U:Q true ⟨h,g,d,t,os⟩):wpAny M A (excMatches (.ref e) (.ref D)) Q E ⟨h,g,d,t,os⟩:=by
 obtain ⟨O,n0,J,q0,b0,d0,s0,u0,a0,c0,dd0,j0,j1,j2,j3,j5,f0,hD,hN,Y,T⟩:=(c.own I).obj
 have Z:(Value.ref D::O).contains (.type "BaseException")=true:=by rw [List.contains_cons,T.hasType F.excBase_ValueError.hasBase,Bool.or_true]
 have ft:=tc_notTuple
 have lk:=PySem.W.looks_subIn (M:=M) I sub
 unfold excMatches
 repeat (first|(with_reducible refine yV he ?_;rw [n])|with_reducible refine yV hD ?_|(with_reducible refine wpAny_isSubtype_exc hD ?_;rw [Z])|wp_step)
 refine lk A _ E ⟨h,g,d,t,os⟩ (λ_ _ z=>z) ?_
 wp_walk
 exact U
abbrev Cx.held (X:Cx) (n:List (Addr × Obj)) (E:Value->Shared->Prop):Cx:={ X with pn:=X.pn++n,xe:=E }
abbrev Cx.suite (X:Cx) (n:List (Addr × Obj)) (A:Around):Cx:={ X with pn:=X.pn++n,xe:=λ_ _=>False,A:=A,calm:=false }
variable {pins:List (Addr × Obj)} {σ:St} {H:Hp} {s:Shared} {E:Value->Shared->Prop} {A:Around}
theorem Inv.held (I:Inv X pins σ H s):Inv (X.held pins E) [] σ H s:=
 ⟨⟨I.ok.mod,I.ok.kind,I.ok.glob,I.ok.blt,I.ok.above,I.ok.inj,I.ok.has,I.ok.cab,I.ok.hd,I.ok.frames,I.ok.stk,I.ok.Vr,I.ok.bs,I.ok.HW,I.ok.uG,I.ok.vP,I.ok.jD,I.ok.JG⟩,I.os,I.bare,I.base,I.loc,I.cell,I.free,I.fJ,λp n=>I.pin p (by rw [zX] at n;exact n),I.hok,I.len⟩
theorem Inv.pF (I:Inv (X.held pins E) [] σ H s):Inv X pins σ H s:=
 ⟨⟨I.ok.mod,I.ok.kind,I.ok.glob,I.ok.blt,I.ok.above,I.ok.inj,I.ok.has,I.ok.cab,I.ok.hd,I.ok.frames,I.ok.stk,I.ok.Vr,I.ok.bs,I.ok.HW,I.ok.uG,I.ok.vP,I.ok.jD,I.ok.JG⟩,I.os,I.bare,I.base,I.loc,I.cell,I.free,I.fJ,λp n=>I.pin p (by rw [zX];exact n),I.hok,I.len⟩
theorem Inv.less (I:Inv X Gd σ H s):Inv X [] σ H s:=
 ⟨I.ok,I.os,I.bare,I.base,I.loc,I.cell,I.free,I.fJ,λp n=>I.pin p (by rw [zX] at n;exact yE _ n),I.hok,I.len⟩
theorem Inv.suite (I:Inv X pins σ H s) (hA:A.frames=X.A.frames):Inv (X.suite pins A) [] σ H s:=
 ⟨⟨I.ok.mod,I.ok.kind,I.ok.glob,I.ok.blt,I.ok.above,I.ok.inj,I.ok.has,I.ok.cab,(λz=>by cases z),hA.trans I.ok.frames,I.ok.stk,I.ok.Vr,I.ok.bs,I.ok.HW,I.ok.uG,I.ok.vP,I.ok.jD,I.ok.JG⟩,I.os,I.bare,I.base,I.loc,I.cell,I.free,I.fJ,λp n=>I.pin p (by rw [zX] at n;exact n),I.hok,I.len⟩
theorem Inv.rC (I:Inv (X.suite pins A) [] σ H s) (hd:X.calm=true->X.A.handled=none) (hf:X.A.frames=some X.stack):Inv X pins σ H s:=
 ⟨⟨I.ok.mod,I.ok.kind,I.ok.glob,I.ok.blt,I.ok.above,I.ok.inj,I.ok.has,I.ok.cab,hd,hf,I.ok.stk,I.ok.Vr,I.ok.bs,I.ok.HW,I.ok.uG,I.ok.vP,I.ok.jD,I.ok.JG⟩,I.os,I.bare,I.base,I.loc,I.cell,I.free,I.fJ,λp n=>I.pin p (by rw [zX];exact n),I.hok,I.len⟩
def Ends.goes (D:Ends) (i:Nat):Ends:=⟨λσ H=>D.nx (σ.set i none) H,D.rt,λσ H=>D.bk (σ.set i none) H,λσ H=>D.ct (σ.set i none) H⟩
theorem La {suite:List Stmt} {D:Ends} (c:oZ X.K X.mg x C) (hN:X.N.Nodup) (hi:X.N[i]? = some n) (hn:X.env.scope.names.lookup n=some .local)
  (hs:X.stack=X.env::X.outer) (hL:X.env.frame=some X.env.locals) (hx:X.ex=[]) (I:Inv X pins σ H s)
  (O:∀E:Value->Shared->Prop,pD (X.held pins E) G->∃tb,gw (X.held pins E) body tb/\tb D σ H)
  (hG:∀(Ca:Addr) (σ':St) (H':Hp),G Ca σ' H'->PySem.W.subIn X.K (.ref Ca) (.ref C)=some true/\∀a,H' a=none->∃th,gw (X.suite pins (X.A.mark (some (.ref a)))) (b₀::suite) th/\th (D.goes i) (σ'.set i (some (.ref a))) (upd H' a (XO a Ca)))
  (hg:Gl X x) (hdb:(x == ("__debug__":Str))=false):wpAny (model X.prog X.w) X.A (exec (.Try body [.ExceptHandler (some (.Name x np)) (some n) (b₀::suite) hpos] [] [] pos) X.env) (SP X pins D) X.xe s:=by
 refine wpAny_Try_except ?_
 have lk:pD (X.held pins (λe s₁=>wpAny (model X.prog X.w) X.A (noteFrame e X.env) (λ_ s₂=>wpAny (model X.prog X.w) X.A (setFlight e none) (λ_ s₃=>wpAny (model X.prog X.w) X.A (handleBy e X.env [.ExceptHandler (some (.Name x np)) (some n) (b₀::suite) hpos]) (SP X pins D) X.xe s₃) X.xe s₂) X.xe s₁)) G:=by
  intro afN σ1 H1 s1 H2 s2 a Ca I1 I2 tr g0
  have g:=hG Ca σ1 H2 g0
  have J1:=I1.less.pF
  have J2:=I2.less.pF
  obtain ⟨t0,t1,oe,vs,T,oT,ts,a1,a2,a3,a4,a5,a6,a7,a8,a9,a10⟩:=tr
  have far:∀{σ':St} {H':Hp} {s':Shared},Inv X pins σ' H' s'->∀b,s'.heap.get? b=none->X.s₀.heap.get? b=none/\H' b=none/\b≠X.env.locals/\(∀y c,X.env.cells.lookup y=some c->c≠b)/\∀p∈X.pn++pins,p.1≠b:=λ{σ' H' s'} J b z=>by
   refine ⟨?_,?_,λy=>?_,λy c e y'=>?_,λp hp y=>?_⟩
   ·cases q:X.s₀.heap.get? b with
    | none=>rfl
    | some o=>obtain ⟨_,e⟩:=J.base.there b o q (by show b ∉ X.ex;rw [hx];intro z;cases z);rw [z] at e;cases e
   ·cases q:H' b with
    | none=>rfl
    | some o=>obtain ⟨_,e⟩:=(J.hok _ _ q).ex;rw [z] at e;cases e
   ·obtain ⟨m,⟨o,_,_,ho,_⟩,_⟩:=J.loc
    rw [<-show b=_ from y,z] at ho;cases ho
   ·obtain ⟨v,o,ho,_⟩:=J.cell y c e
    rw [y',z] at ho;cases ho
   ·have:=(J.pin p hp).1
    rw [y,z] at this;cases this
  have fa:=far J1 a t1
  have fT:=far J1 T a6
  show wpAny (model X.prog X.w) X.A (noteFrame (.ref a) X.env) _ X.xe s2
  refine u6 (base:=X.base) (outer:=X.outer) (by rw [<-hs];exact I.ok.frames) (by rw [<-hs];exact J2.stack) hL a1 a3 a4 a5 a8 a9 a10 λh3 n3 Y=>?_
  obtain ⟨oe',vs',T',oT',ts',fl,b1,b2,b3,b4,b5,b6,b7,b8,b9⟩:=Y
  have J3:=sS (t':=s2.toks) hs hL hx J2 (by rw [hs];exact n3) (λb O=>by
   rcases zm.mp O with rfl|O
   ·exact ⟨fa.1,t0,fa.2.2⟩
   ·rw [zr.mp O];exact ⟨fT.1,a7,fT.2.2⟩)
  have fT':X.s₀.heap.get? T'=none/\H2 T'=none/\T'≠X.env.locals/\(∀y c,X.env.cells.lookup y=some c->c≠T')/\∀p∈X.pn++pins,p.1≠T':=by
   rcases b6 with z|z
   ·exact far J2 T' z
   ·rw [z];exact ⟨fT.1,a7,fT.2.2⟩
  have nf3:T' ∉ frs X.stack:=λz=>by
   obtain ⟨_,o,q,nf⟩:=J3.stack.mem z
   rw [show h3.get? T'=some oT' from b7] at q;cases q
   exact nf _ b8
  refine qt (s:={ s2 with heap:=h3 }) b1 b3 b4 b7 b8 b9 λh4 k4 Y=>?_
  obtain ⟨oT4,ts4,c1,c2,c3⟩:=Y
  have J4:=sS (t':=s2.toks) hs hL hx J3 (Bt k4 nf3) (λb O=>by rw [zr.mp O];exact fT')
  have e4:h4.get? a=some oe':=k4 a oe' b1 (Ne.symm b5)
  refine wpAny_handleBy_cons (codeAny_handlers_test ?_) (by intro q;cases q)
  have K4:=J4.suite (A:=X.A.mark (some (.ref a))) rfl
  refine kh (X:=X.suite pins (X.A.mark (some (.ref a)))) K4 hg c.m ?_ hdb
  refine sU (K:=X.K) K4.rQ c g.1 e4 (by rw [b2,a2]) ?_
  refine codeAny_handlers_suite_as ?_
  refine qt (s:={ s2 with heap:=h4 }) e4 b3 b4 c1 c2 c3 λh5 k5 Y=>?_
  obtain ⟨oT5,ts5,d1,d2,d3⟩:=Y
  have J5:=sS (t':=s2.toks) hs hL hx J4 (Bt k5 nf3) (λb O=>by rw [zr.mp O];exact fT')
  have K5:=J5.suite (A:=X.A.mark (some (.ref a))) rfl
  have e5:h5.get? a=some oe':=k5 a oe' e4 (Ne.symm b5)
  refine j_ (X:=X.suite pins (X.A.mark (some (.ref a)))) (i:=i) (v:=.ref a) K5 hN hi (.inl hn) rfl (λs6 K6 Y=>?_) (.inr hn)
  obtain ⟨b,same,O⟩:=Y
  have e6:s6.heap.get? a=some oe':=by
   refine (same.2 a λz=>?_).trans e5
   rcases O with y|y
   ·exact fa.2.2.1 (z.trans y)
   ·exact fa.2.2.2.1 n b y z.symm
  have K7:=IK K6 hx t0 fa.1 ⟨oe',e6,by rw [b2,a2],vs',b3⟩ fa.2.2.2.1 (λp hp=>fa.2.2.2.2 p (by rw [zX] at hp;exact hp))
  obtain ⟨th,hh,ht⟩:=g.2 a t0
  refine xl (hh [] s6 _ _ (D.goes i) K7 ht) (λf s8 q=>?_) λ_ _ z=>z.elim
  cases f with
  | next=>
   obtain ⟨U,H9,K9,q9⟩:=q
   exact rm (X:=X.suite pins (X.A.mark (some (.ref a)))) K9 hN hi hn λZ B=>⟨_,H9,B.rC I.ok.hd I.ok.frames,q9⟩
  | brk=>
   obtain ⟨U,H9,K9,q9⟩:=q
   exact rm (X:=X.suite pins (X.A.mark (some (.ref a)))) K9 hN hi hn λZ B=>⟨_,H9,B.rC I.ok.hd I.ok.frames,q9⟩
  | cont=>
   obtain ⟨U,H9,K9,q9⟩:=q
   exact rm (X:=X.suite pins (X.A.mark (some (.ref a)))) K9 hN hi hn λZ B=>⟨_,H9,B.rC I.ok.hd I.ok.frames,q9⟩
  | ret u=>
   obtain ⟨v,U,H9,K9,r,q9⟩:=q
   exact rm (X:=X.suite pins (X.A.mark (some (.ref a)))) K9 hN hi hn λZ B=>⟨v,_,H9,B.rC I.ok.hd I.ok.frames,r,q9⟩
 obtain ⟨tb,hb',hq⟩:=O _ lk
 refine xl (hb' [] s σ H D I.held hq) (λf s1 q=>?_) λ_ _ z=>z
 cases f with
 | next=>
  obtain ⟨σ',H',I',q⟩:=q
  exact xD ⟨σ',H',I'.pF,q⟩
 | brk=>obtain ⟨σ',H',I',q⟩:=q;exact ⟨σ',H',I'.pF,q⟩
 | cont=>obtain ⟨σ',H',I',q⟩:=q;exact ⟨σ',H',I'.pF,q⟩
 | ret u=>obtain ⟨v,σ',H',I',r,q⟩:=q;exact ⟨v,σ',H',I'.pF,r,q⟩
end
structure XF (K:PySem.W.Frag) (C:Addr):Prop where
 ok:PySem.W.excIn K C Gr "ValueError.__new__"=true
 ga:PySem.W.findIn K (.ref C) "__getattribute__"=some (some (.builtin "BaseException.__getattribute__"))
 gx:PySem.W.findIn K (.ref C) "__getattr__"=some none
 cl:PySem.W.findIn K (.ref C) "__class__"=some (some (.builtin "object.__class__"))
section
variable {prog:Program} {w:World} {A:Around} {E:Value->Shared->Prop} {h:Heap} {g:Array GenState} {d:Drawn} {t:Nat} {os:OsState} {a C:Addr} {o:Obj} {K:PySem.W.Frag}
theorem Ws (f:XF K C) (I:K.In h) (B:h.get? a=some o) (D:o.cls=.ref C) (hq:R (.ok (.ret (.ref C))) ⟨h,g,d,t,os⟩) :
  codeAny (model prog w) A (.call (.builtin "getset_descriptor.__get__") ⟨[.builtin "object.__class__",.ref a,.ref C],[]⟩) R ⟨h,g,d,t,os⟩:=by
 obtain ⟨O,n0,J,q0,b0,d0,s0,Z,a0,c0,Y,j0,j1,j2,j3,j5,f0,hD,hN,U,T⟩:=(oZ.own (mg:=λ_=>some (.ref C)) (x:="x") ⟨rfl,f.ok⟩ I).obj
 have z:Shared.TypeIs ⟨h,g,d,t,os⟩ (.builtin "object.__class__") "getset_descriptor":=F.typeOf_object_class
 have n:(Value.ref C::O).contains (.type (".".intercalate ("object.__class__".cutAt '.').dropLast))=true:=by
  rw [F.owner_object_class,List.contains_cons,T.hasType (b:=true) (by decide)];rfl
 refine codeAny_call_builtin F.slot_gs_get.plain F.entry_gs_get (F.slot_gs_get.check _ _ _ _ _ _ _ _ z (F.args_gs_get _ _ _) ?_)
 repeat (any_goals (first|assumption|(with_reducible refine yV B ?_;rw [D])|(with_reducible refine wpAny_isSubtype_exc hD ?_;rw [n])|wp_step))
 refine ⟨Code.quiet_builtin _ (by decide),?_⟩
 refine codeAny_builtin F.entry_object_class ?_
 repeat (any_goals (first|assumption|(with_reducible refine yV B ?_;rw [D])|wp_step))
theorem wk (I:K.In h) (e:PySem.W.findIn K (.ref C) n=some r) (B:Q r ⟨h,g,d,t,os⟩):wpAny (model prog w) A (typeLookup (.ref C) n) Q E ⟨h,g,d,t,os⟩:=
 PySem.W.looks_findIn (M:=model prog w) I e A Q E ⟨h,g,d,t,os⟩ (λ_ _ z=>z) B
theorem Lb (f:XF K C) (I:K.In h) (n:h.get? a=some o) (z:o.cls=.ref C) (D:Q (.done (.ret (.ref C))) ⟨h,g,d,t,os⟩):wpAny (model prog w) A (Builtin.«object.__getattribute__» ⟨[.ref a,.str "__class__" tk],[]⟩) Q E ⟨h,g,d,t,os⟩:=by
 have B:Shared.TypeIs ⟨h,g,d,t,os⟩ (.builtin "object.__class__") "getset_descriptor":=F.typeOf_object_class
 have U:=F.typeOf_object_class;have O:=F.slot_gs_get.lookup;have J:=F.slot_gs_set.lookup
 repeat (any_goals (first|assumption|(with_reducible refine yV n ?_;rw [z])|with_reducible refine wk I f.cl ?_|wp_step))
 refine Ws f I n z ?_
 repeat any_goals first|assumption|wp_step
theorem Ld (f:XF K C) (I:K.In h) (J:h.get? a=some o) (Y:o.cls=.ref C) (O:Q () ⟨h,g,d,t,os⟩) :
  wpAny M A (checkBuiltinCall "BaseException.__getattribute__" ⟨[.ref a,nameV],[]⟩) Q E ⟨h,g,d,t,os⟩:=by
 obtain ⟨D,n0,B,q0,b0,d0,s0,u0,a0,c0,Z,j0,j1,j2,j3,j5,f0,hD,hN,U,T⟩:=(oZ.own (mg:=λ_=>some (.ref C)) (x:="x") ⟨rfl,f.ok⟩ I).obj
 have k1:builtinKind "BaseException.__getattribute__"=some .slot:=by decide
 have k2:splitId "BaseException.__getattribute__"=some ("BaseException","__getattribute__"):=by decide
 have n:(Value.ref C::D).contains (.type "BaseException")=true:=by rw [List.contains_cons,T.hasType F.excBase_ValueError.hasBase];rfl
 have z:=F.args_bexc_ga (.ref a) nameV
 simp only [checkBuiltinCall,k1,k2]
 refine zd ?_
 ·unfold isInstance
  repeat (first|(with_reducible refine yV J ?_;rw [Y])|(with_reducible refine wpAny_isSubtype_exc hD ?_;rw [n])|wp_step)
  exact O
theorem Rm (f:XF K C) (I:K.In h) (n:h.get? a=some o) (z:o.cls=.ref C) (B:R (.ok (.ret (.ref C))) ⟨h,g,d,t,os⟩) :
  codeAny (model prog w) A (.call (.builtin "BaseException.__getattribute__") ⟨[.ref a,.str "__class__" tk],[]⟩) R ⟨h,g,d,t,os⟩:=
 codeAny_call_builtin F.attrBase_ValueError.ga.plain F.entry_bexc_ga (Ld f I n z (Lb f I n z B))
theorem aac {D:Tok} (f:XF K C) (I:K.In h) (n:h.get? a=some o) (z:o.cls=.ref C) (O:Q (.ref C) ⟨h,g,d,t,os⟩):wpAny (model prog w) A (getAttrBy (.ref a) (.str "__class__" D) false) Q E ⟨h,g,d,t,os⟩:=by
 have U:=F.attrBase_ValueError.ga.bind (.ref a)
 have B:(Value.builtin "BaseException.__getattribute__" == Value.builtin "object.__getattribute__")=false:=by decide
 have J:(onTheHeap (Value.ref C) && Value.builtin "BaseException.__getattribute__" == Value.builtin "object.__getattribute__")=false:=by rw [B];rfl
 repeat (any_goals (first|assumption|(with_reducible refine yV n ?_;rw [z])|with_reducible refine wk I f.ga ?_|with_reducible refine wk I f.gx ?_|wp_step))
 refine Rm f I n z ?_
 repeat any_goals first|assumption|wp_step
theorem Rn {Q:Option Value->Shared->Prop} (f:XF K C) (I:K.In h) (n:h.get? a=some o) (z:o.cls=.ref C) (B:Q (some (.ref C)) ⟨h,g,d,t+1,os⟩):wpAny (model prog w) A (getAttr? (.ref a) "__class__") Q E ⟨h,g,d,t,os⟩:=by
 unfold getAttr? getAttrBy?
 repeat (any_goals (first|assumption|with_reducible apply aac f I n z|wp_step))
end
theorem Lf {K:PySem.W.Frag} {a C:Addr} (f:XF K C):PySem.W.KitX K (.ref a) (.ref C) (K8 a C) where
 ty:=λM h _ ⟨o,h1,h2,_⟩=>h2▸(PySem.W.Looks.ld h1).andThen .now
 it:=λM h I _=>by
  obtain ⟨Z,Y,B,U,b0,d0,O,J,a0,c0,D,j0,j1,j2,j3,j5,f0,hD,_⟩:=(oZ.own (mg:=λ_=>some (.ref C)) (x:="x") ⟨rfl,f.ok⟩ I).obj
  intro A' Q' E' s' k q
  unfold isType loadHead
  exact zd (wpAny_loadPart (k _ _ hD) (zB q))
 ne:=λh tp dd its n sl I z=>by
  obtain ⟨Z,Y,B,U,b0,d0,O,J,a0,c0,D,j0,j1,j2,j3,j5,f0,hD,_⟩:=(oZ.own (mg:=λ_=>some (.ref C)) (x:="x") ⟨rfl,f.ok⟩ I).obj
  refine Bool.eq_false_iff.mpr λq=>?_
  have e:C=tp:=Value.ref.inj (beq_iff_eq.mp q)
  subst e
  rw [hD] at z
  have:=yd (λo=>o.map (·.cls)) z
  simp at this
 ca:=λ{_ _ _ _ _ s} I ⟨o,h1,h2,_⟩ k=>by obtain ⟨h,g,d,t,os⟩:=s;exact Rn f I h1 h2 k
section
variable {X:Cx} {σ:St} {H:Hp}
def Zf (K:PySem.W.Frag) (H:Hp) (v:V) (t:Value):Prop:=uH K H v t\/∃a n,v=.ref a/\H a=some (XO a n)/\t=.ref n/\XF K n
theorem Lg {s:Shared} (I:Inv X pins σ H s) (B:RelV v u) (ty:Zf X.K H v t):∃D:Heap->Prop,PySem.W.KitX X.K u t D/\D s.heap/\u≠.builtin "__main__.__loader__#opaque":=by
 rcases ty with ty|⟨a,Y,rfl,U,rfl,xf⟩
 ·cases ty with
  | non=>cases (show u=Value.none from B);exact ⟨_,PySem.W.kitx_none,trivial,λz=>nomatch z⟩
  | bl y=>cases (show u=Value.bool y from B);exact ⟨_,PySem.W.kitx_bool,trivial,λz=>nomatch z⟩
  | int i=>obtain ⟨_,q⟩:=(show ∃t,u=Value.int i t from B);cases q;exact ⟨_,PySem.W.kitx_int,trivial,λz=>nomatch z⟩
  | str y=>obtain ⟨_,q⟩:=(show ∃t,u=Value.str y t from B);cases q;exact ⟨_,PySem.W.kitx_str,trivial,λz=>nomatch z⟩
  | @lst a xs ea=>
   cases (show u=Value.ref a from B)
   obtain ⟨_,_,n,_,h1⟩:=(show bK X.prog X.w H s.heap a (.lst xs) from I.hok a _ ea)
   exact ⟨_,PySem.W.kitx_list,⟨_,h1,rfl⟩,λz=>nomatch z⟩
  | @Dj a ob xs ea=>
   cases (show u=Value.ref a from B)
   obtain ⟨_,_,_,n,_,h1⟩:=(show bK X.prog X.w H s.heap a (.Dj ob (.lst xs)) from I.hok a _ ea)
   exact ⟨_,PySem.W.kitx_list,⟨_,h1,rfl⟩,λz=>nomatch z⟩
  | @tup a xs ea=>
   cases (show u=Value.ref a from B)
   obtain ⟨_,_,_,o,h1,h2,_⟩:=(show bK X.prog X.w H s.heap a (.tup xs) from I.hok a _ ea)
   exact ⟨_,PySem.W.kitx_tuple,⟨o,h1,h2⟩,λz=>nomatch z⟩
  | @dK a kvs ea=>
   cases (show u=Value.ref a from B)
   obtain ⟨_,_,vs,_,o,es,ep,h1,h2,_⟩:=(show bK X.prog X.w H s.heap a (.dK kvs) from I.hok a _ ea)
   exact ⟨_,PySem.W.kitx_dict,⟨o,h1,h2.1⟩,λz=>nomatch z⟩
  | @ins a C dx fs ea cl U hn htk hm=>
   cases (show u=Value.ref a from B)
   obtain ⟨mA,O,_⟩:=qZ I.hok ea
   obtain ⟨Z,J,_⟩:=O.look
   exact ⟨_,PySem.W.kitx_own (cl.get _) cl.hd U hn htk hm,J,λz=>nomatch z⟩
 ·cases (show u=Value.ref a from B)
  obtain ⟨D,_,_⟩:=(show bK X.prog X.w H s.heap a (XO a Y) from I.hok a _ U)
  exact ⟨_,Lf xf,D,λz=>nomatch z⟩
theorem Wt {n:List (Addr × Obj)} {s:Shared} {A:Around} {E:Value->Shared->Prop} {Q:Value->Shared->Prop} {v:V} {u t c:Value} {k:Bool} (I:Inv X n σ H s) (z:RelV v u) (ty:Zf X.K H v t) (e:PySem.W.kitOne X.K t c=some k)
  (h:∀tk,Q (.bool k) { s with toks:=tk }):wpAny (model X.prog X.w) A (call (.builtin "isinstance") [u,c]) Q E s:=by
 obtain ⟨D,Z,B,ne⟩:=Lg I z ty
 exact PySem.W.kia_one Z I.rQ B e ne h
def adh (K:PySem.W.Frag):List V->Hp->VK->Prop:=λvs H Q=>∃v y c t k,vs=[v,y]/\(∀u,RelV y u->u=c)/\Zf K H v t/\PySem.W.kitOne K t c=some k/\Q (.bl k) H
theorem Bu {K:PySem.W.Frag} (D:X.K=K):g_ X (.builtin "isinstance") (adh K):=λpins s σ H vs J Q I r z=>by
 obtain ⟨v,y,c,t,k,e,B,ty,n,q⟩:=z
 subst e
 cases r with
 | cons r1 r2=>
  cases r2 with
  | cons r3 r4=>
   cases r4
   rw [B _ r3]
   rw [<-D] at ty n
   exact Wt I r1 ty n λtk=>⟨.bl k,H,I.tok tk,rfl,q⟩
end
inductive D where
 | non|bl (b:Bool)|int (i:Int)|str (x:Str)|lst (xs:List D)|tup (xs:List D)|atom (v:V)|Aj (ns:List Int)|lK (ks:List Key) (ds:List D)|exc (C:Addr)
mutual
inductive Rep (K:PySem.W.Frag) (F:Hp):D->V->Prop
 | non:Rep K F .non .non
 | bl (b:Bool):Rep K F (.bl b) (.bl b)
 | int (i:Int):Rep K F (.int i) (.int i)
 | str (x:Str):Rep K F (.str x) (.str x)
 | atom (v:V):Rep K F (.atom v) v
 | lst {a:Addr} {vs:List V} {ds:List D}:F a=some (.lst vs)->aN K F ds vs->Rep K F (.lst ds) (.ref a)
 | tup {a:Addr} {vs:List V} {ds:List D}:F a=some (.tup vs)->aN K F ds vs->Rep K F (.tup ds) (.ref a)
 | Aj {a:Addr} {ns:List Int}:iV K F a (ns.map V.int)->Rep K F (.Aj ns) (.ref a)
 | lK {a:Addr} {ks:List Key} {vs:List V} {ds:List D}:F a=some (.dK (ks.zip vs))->ks.length=vs.length->aN K F ds vs->Rep K F (.lK ks ds) (.ref a)
 | exc {a C:Addr}:F a=some (XO a C)->Rep K F (.exc C) (.ref a)
inductive aN (K:PySem.W.Frag) (F:Hp):List D->List V->Prop
 | nil:aN K F [] []
 | cons {d:D} {v:V} {ds:List D} {vs:List V}:Rep K F d v->aN K F ds vs->aN K F (d::ds) (v::vs)
end
mutual
theorem Rep.mono {K:PySem.W.Frag} {F n:Hp} (h:aP F n):∀{d:D} {v:V},Rep K F d v->Rep K n d v
 | _,_,.non=>.non
 | _,_,.bl b=>.bl b
 | _,_,.int i=>.int i
 | _,_,.str x=>.str x
 | _,_,.atom v=>.atom v
 | _,_,.lst q r=>.lst (h _ _ q) (aN.mono h r)
 | _,_,.tup q r=>.tup (h _ _ q) (aN.mono h r)
 | _,_,.Aj q=>.Aj (h.seq q)
 | _,_,.lK q l r=>.lK (h _ _ q) l (aN.mono h r)
 | _,_,.exc q=>.exc (h _ _ q)
theorem aN.mono {K:PySem.W.Frag} {F n:Hp} (h:aP F n):∀{ds:List D} {vs:List V},aN K F ds vs->aN K n ds vs
 | _,_,.nil=>.nil
 | _,_,.cons r t=>.cons (Rep.mono h r) (aN.mono h t)
end
section
variable {K:PySem.W.Frag} {F:Hp}
theorem aN.length:∀{ds:List D} {vs:List V},aN K F ds vs->ds.length=vs.length
 | _,_,.nil=>rfl
 | _,_,.cons _ t=>by rw [zG,zG,aN.length t]
theorem aN.get:∀{ds:List D} {vs:List V} {i:Nat} {d:D},aN K F ds vs->ds[i]? = some d->∃v,vs[i]? = some v/\Rep K F d v
 | _,_,_,_,.nil,e=>by simp at e
 | _,_,0,_,.cons r _,e=>by simp at e;subst e;exact ⟨_,rfl,r⟩
 | _,_,i+1,d,.cons _ t,e=>by
  obtain ⟨u,h1,h2⟩:=aN.get (i:=i) (d:=d) t (by simpa using e)
  exact ⟨u,by simpa using h1,h2⟩
theorem aN.set (r:Rep K F d v):∀{ds:List D} {vs:List V} (i:Nat),aN K F ds vs->aN K F (ds.set i d) (vs.set i v)
 | _,_,_,.nil=>.nil
 | _,_,0,.cons _ t=>.cons r t
 | _,_,i+1,.cons q t=>.cons q (aN.set r i t)
theorem aN.append:∀{ds es:List D} {vs n:List V},aN K F ds vs->aN K F es n->aN K F (ds++es) (vs++n)
 | _,_,_,_,.nil,s=>s
 | _,_,_,_,.cons r t,s=>.cons r (aN.append t s)
theorem aN.take:∀{ds:List D} {vs:List V} (n:Nat),aN K F ds vs->aN K F (ds.take n) (vs.take n)
 | _,_,0,_=>.nil
 | _,_,_+1,.nil=>.nil
 | _,_,n+1,.cons r t=>.cons r (aN.take n t)
theorem aN.drop:∀{ds:List D} {vs:List V} (n:Nat),aN K F ds vs->aN K F (ds.drop n) (vs.drop n)
 | _,_,0,r=>r
 | _,_,_+1,.nil=>.nil
 | _,_,n+1,.cons _ t=>aN.drop n t
theorem aN.reverse:∀{ds:List D} {vs:List V},aN K F ds vs->aN K F ds.reverse vs.reverse
 | _,_,.nil=>.nil
 | _,_,.cons r t=>by
  rw [yi,yi]
  exact (aN.reverse t).append (.cons r .nil)
theorem aN.rep (r:aN K F ds vs):∀n:Nat,aN K F (List.replicate n ds).flatten (List.replicate n vs).flatten
 | 0=>.nil
 | n+1=>by
  rw [zM,zM,yF,yF]
  exact r.append (aN.rep r n)
theorem aN.ints:∀{ns:List Int} {vs:List V},aN K F (ns.map D.int) vs->vs=ns.map V.int
 | [],_,.nil=>rfl
 | _::r,_,.cons q t=>by
  cases q
  rw [yb,aN.ints (ns:=r) t]
theorem aN.wu:∀(ns:List Int),aN K F (ns.map D.int) (ns.map V.int)
 | []=>.nil
 | n::r=>.cons (.int n) (aN.wu r)
end
inductive Sl where
 | d (x:D)|own (xs:List D)|bor (xs:List D)
abbrev aO:=List (Option Sl)
inductive Ev where
 | fz (x:D)|ow (i:Nat)
def Sl.val:Sl->D
 | .d x=>x
 | .own xs=>.lst xs
 | .bor xs=>.lst xs
def Sl.put (n:List D):Sl->Sl
 | .own _=>.own n
 | .bor _=>.bor n
 | .d x=>.d x
def Sl.mu:Sl->Bool
 | .d _=>false
 | .own _=>true
 | .bor _=>true
def Sl.ev (i:Nat):Sl->Ev
 | .d x=>.fz x
 | .own _=>.ow i
 | .bor _=>.ow i
def lk (p:aO):Ev->D
 | .fz x=>x
 | .ow i=>match p[i]? with
  | some (some s)=>s.val
  | _=>.non
inductive Rt where
 | rd (x:D)|ro (xs:List D)
def Rt.val:Rt->D
 | .rd x=>x
 | .ro xs=>.lst xs
def Rt.sl:Rt->Sl
 | .rd x=>.d x
 | .ro xs=>.own xs
structure Pc where
 K:PySem.W.Frag
 F0:Hp
 H0:Hp
 bs:List (Nat × Addr)
def Lh (C:Pc) (F H:Hp):Sl->V->Prop
 | .d x,v=>Rep C.K F x v
 | .own xs,v=>∃a vs,v=.ref a/\F a=none/\C.H0 a=none/\H a=some (.lst vs)/\aN C.K F xs vs
 | .bor xs,v=>∃a vs,v=.ref a/\F a=none/\(∃q∈C.bs,q.2=a)/\H a=some (.lst vs)/\aN C.K F xs vs
structure RS (C:Pc) (p:aO) (σ:St) (F H:Hp):Prop where
 sub:aP F H
 ext:aP C.F0 F
 new:∀a o,F a=some o->C.F0 a=some o\/C.H0 a=none\/∃xs,o=.tup xs
 keep:∀a o,C.H0 a=some o->(∀q∈C.bs,q.2≠a)->H a=some o
 grow:∀a,C.H0 a≠none->H a≠none
 len:p.length=σ.length
 sl:∀(i:Nat) (s:Sl),p[i]? = some (some s)->∃v,σ[i]? = some (some v)/\Lh C F H s v
 apart:∀(i j:Nat) (s s':Sl) (a:Addr),i≠j->p[i]? = some (some s)->s.mu=true->p[j]? = some (some s')->s'.mu=true->σ[i]? = some (some (.ref a))->σ[j]? = some (some (.ref a))->False
 pin:∀q∈C.bs,σ[q.1]? = some (some (.ref q.2))/\∃xs,p[q.1]? = some (some (.bor xs))
def jM (p p1:aO):Prop:=p1.length=p.length/\∀(i:Nat) (s:Sl),p[i]? = some (some s)->s.mu=true->∃n,p1[i]? = some (some n)/\n.mu=true
theorem jM.refl (p:aO):jM p p:=⟨rfl,λ_ s h m=>⟨s,h,m⟩⟩
theorem jM.trans {p p1 p2:aO} (a:jM p p1) (b:jM p1 p2):jM p p2:=⟨b.1.trans a.1,λi s h m=>let ⟨s1,h1,m1⟩:=a.2 i s h m;b.2 i s1 h1 m1⟩
def lA (K:PySem.W.Frag) (p:aO) (n:St) (F:Hp):Ev->V->Prop
 | .fz x,v=>Rep K F x v
 | .ow i,v=>(∃s,p[i]? = some (some s)/\s.mu=true)/\n[i]? = some (some v)
theorem lA.mono {K:PySem.W.Frag} {p p1:aO} {n:St} {F z:Hp} {e:Ev} {v:V} (h:lA K p n F e v) (s:aP F z) (sh:jM p p1):lA K p1 n z e v:=by
 cases e with
 | fz x=>exact Rep.mono s h
 | ow i=>exact ⟨let ⟨⟨s,h1,m⟩,_⟩:=h;sh.2 i s h1 m,h.2⟩
abbrev TQ:=aO->(Ev->aO->Prop)->Prop
abbrev TN:=aO->(Rt->aO->Prop)->Prop
abbrev m8:=aO->(Bool->aO->Prop)->Prop
abbrev TAQ:=aO->(List Ev->aO->Prop)->Prop
def Eb (p:aO) (n:St) (a:Addr):Prop:=∀(i:Nat) (s:Sl),p[i]? = some (some s)->s.mu=true->n[i]?≠some (some (.ref a))
def Li (C:Pc) (p:aO) (n:St) (F H:Hp):Rt->V->Prop
 | .rd x,v=>Rep C.K F x v
 | .ro xs,v=>∃a vs,v=.ref a/\F a=none/\C.H0 a=none/\H a=some (.lst vs)/\aN C.K F xs vs/\Eb p n a
def XQ (C:Pc) (p:aO) (z:St) (F:Hp) (R:Ev->aO->Prop) (v:V) (B:Hp):Prop:=∃e p1 n,RS C p1 z n B/\aP F n/\jM p p1/\lA C.K p1 z n e v/\R e p1
def XN (C:Pc) (p:aO) (z:St) (F:Hp) (R:Rt->aO->Prop) (v:V) (B:Hp):Prop:=∃r p1 n,RS C p1 z n B/\aP F n/\jM p p1/\Li C p1 z n B r v/\R r p1
def XT (C:Pc) (p:aO) (z:St) (F:Hp) (R:Bool->aO->Prop) (b:Bool) (B:Hp):Prop:=∃p1 n,RS C p1 z n B/\aP F n/\jM p p1/\R b p1
inductive pG (K:PySem.W.Frag) (p:aO) (σ:St) (F:Hp):List Ev->List V->Prop
 | nil:pG K p σ F [] []
 | cons {e v es vs}:lA K p σ F e v->pG K p σ F es vs->pG K p σ F (e::es) (v::vs)
def XA (C:Pc) (p:aO) (z:St) (F:Hp) (R:List Ev->aO->Prop) (vs:List V) (B:Hp):Prop:=∃es p1 n,RS C p1 z n B/\aP F n/\jM p p1/\pG C.K p1 z n es vs/\R es p1
def Up (C:Pc) (t:TQ):TE:=λσ H Q=>∃p F R,RS C p σ F H/\t p R/\∀v H1,XQ C p σ F R v H1->Q v H1
def m9 (C:Pc) (t:TN):TE:=λσ H Q=>∃p F R,RS C p σ F H/\t p R/\∀v H1,XN C p σ F R v H1->Q v H1
def gf (C:Pc) (t:m8):TT:=λσ H Q=>∃p F R,RS C p σ F H/\t p R/\∀b H1,XT C p σ F R b H1->Q b H1
def gJ (C:Pc) (t:TAQ):TA:=λσ H Q=>∃p F R,RS C p σ F H/\t p R/\∀vs H1,XA C p σ F R vs H1->Q vs H1
section
variable {X:Cx} {C:Pc} {p:aO} {σ:St} {F H:Hp}
theorem QE.mk (h:PE X e t) (hi:∀p σ F H R,RS C p σ F H->t' p R->t σ H (XQ C p σ F R)):PE X e (Up C t'):=λpins s σ H Q I n=>by
 obtain ⟨p,F,R,z,D,J⟩:=n
 exact bu (h pins s σ H _ I (hi p σ F H R z D)) λ_ _ n=>by obtain ⟨v,H1,O,B,q1⟩:=n;exact ⟨v,H1,O,B,J v H1 q1⟩
theorem QN.mk (h:PE X e t) (hi:∀p σ F H R,RS C p σ F H->t' p R->t σ H (XN C p σ F R)):PE X e (m9 C t'):=λpins s σ H Q I n=>by
 obtain ⟨p,F,R,z,D,J⟩:=n
 exact bu (h pins s σ H _ I (hi p σ F H R z D)) λ_ _ n=>by obtain ⟨v,H1,O,B,q1⟩:=n;exact ⟨v,H1,O,B,J v H1 q1⟩
theorem QT.mk (h:PT X e t) (hi:∀p σ F H R,RS C p σ F H->t' p R->t σ H (XT C p σ F R)):PT X e (gf C t'):=λpins s σ H Q I n=>by
 obtain ⟨p,F,R,z,B,D⟩:=n
 exact bu (h pins s σ H _ I (hi p σ F H R z B)) λ_ _ n=>by obtain ⟨H1,J,q1⟩:=n;exact ⟨H1,J,D _ H1 q1⟩
theorem QW.mk (h:PW X e t) (hi:∀p σ F H R,RS C p σ F H->t' p R->t σ H (XT C p σ F R)):PW X e (gf C t'):=λz pins s σ H Q I n=>by
 obtain ⟨p,F,R,B,D,J⟩:=n
 exact bu (h z pins s σ H _ I (hi p σ F H R B D)) λ_ _ n=>by obtain ⟨H1,O,q1⟩:=n;exact ⟨H1,O,J _ H1 q1⟩
theorem QA.mk (h:PA X es t) (hi:∀p σ F H R,RS C p σ F H->t' p R->t σ H (XA C p σ F R)):PA X es (gJ C t'):=λpos pins s σ H Q I n=>by
 obtain ⟨p,F,R,z,D,J⟩:=n
 exact bu (h pos pins s σ H _ I (hi p σ F H R z D)) λ_ _ n=>by obtain ⟨vs,H1,O,B,q1⟩:=n;exact ⟨vs,H1,O,B,J vs H1 q1⟩
theorem up1 {D:TQ} {B:Ev->aO->Prop} {Q:V->Hp->Prop} (rs:RS C p σ F H) (O:D p B)
  (k:∀e p1 v n H1,RS C p1 σ n H1->aP F n->jM p p1->lA C.K p1 σ n e v->B e p1->Q v H1):Up C D σ H Q:=
 ⟨p,F,B,rs,O,λv H1 I=>by obtain ⟨e,p1,n,z,J,sh,U,q⟩:=I;exact k e p1 v n H1 z J sh U q⟩
theorem qM {D:m8} {B:Bool->aO->Prop} {Q:Bool->Hp->Prop} (rs:RS C p σ F H) (O:D p B)
  (k:∀b p1 n H1,RS C p1 σ n H1->aP F n->jM p p1->B b p1->Q b H1):gf C D σ H Q:=
 ⟨p,F,B,rs,O,λb H1 I=>by obtain ⟨p1,n,z,J,sh,q⟩:=I;exact k b p1 n H1 z J sh q⟩
theorem Ro {B:TN} (rs:RS C p σ F H) (J:B p R1)
  (k:∀r p1 v n H1,RS C p1 σ n H1->aP F n->jM p p1->Li C p1 σ n H1 r v->R1 r p1->Q v H1):m9 C B σ H Q:=
 ⟨p,F,R1,rs,J,λv H1 D=>by obtain ⟨e,p1,n,z,I,sh,O,q⟩:=D;exact k e p1 v n H1 z I sh O q⟩
theorem dR {D:TAQ} {B:List Ev->aO->Prop} {Q:List V->Hp->Prop} (rs:RS C p σ F H) (O:D p B)
  (k:∀es p1 vs n H1,RS C p1 σ n H1->aP F n->jM p p1->pG C.K p1 σ n es vs->B es p1->Q vs H1):gJ C D σ H Q:=
 ⟨p,F,B,rs,O,λv H1 I=>by obtain ⟨e,p1,n,z,J,sh,U,q⟩:=I;exact k e p1 v n H1 z J sh U q⟩
theorem sV {Y U:TQ} {R:Ev->Ev->aO->Prop} {Q:V->V->Hp->Prop} (rs:RS C p σ F H) (ht:Y p λe1 p1=>U p1 λe2 p2=>R e1 e2 p2)
  (k:∀e1 e2 p1 v1 v2 z H1,RS C p1 σ z H1->aP F z->jM p p1->lA C.K p1 σ z e1 v1->lA C.K p1 σ z e2 v2->R e1 e2 p1->Q v1 v2 H1):Up C Y σ H λx H1=>Up C U σ H1 λy H2=>Q x y H2:=
 up1 rs ht λe1 p1 v1 z H1 I s1 B O q1=>up1 I q1 λe2 p2 v2 F2 H2 D Z n J q2=>
  k e1 e2 p2 v1 v2 F2 H2 D (s1.trans Z) (B.trans n) (O.mono Z n) J q2
def adi:D->Bool
 | .lst _=>false
 | _=>true
theorem wz {e:Ev} {v:V} {x:D} (z:lA C.K p σ F e v) (h:lk p e=x) (n:adi x=true:=by rfl):Rep C.K F x v:=by
 cases e with
 | fz y=>exact (show y=x from h)▸z
 | ow j=>
  obtain ⟨⟨s,h1,m⟩,_⟩:=z
  dsimp only [lk] at h
  rw [h1] at h
  subst h
  cases s with
  | d x=>cases m
  | own xs=>cases n
  | bor xs=>cases n
theorem aY {e:Ev} {v:V} {i:Int} (n:lA C.K p σ F e v) (h:lk p e=.int i):v=.int i:=by cases wz n h;rfl
theorem qu (n:lA C.K p σ F e v) (h:lk p e=.bl b):v=.bl b:=by cases wz n h;rfl
theorem Wu (n:lA C.K p σ F e v) (h:lk p e=.non):v=.non:=by cases wz n h;rfl
theorem bI (n:lA C.K p σ F e v) (h:lk p e=.str b):v=.str b:=by cases wz n h;rfl
theorem dI (n:lA C.K p σ F e v) (h:lk p e=.atom w):v=w:=by cases wz n h;rfl
theorem iD (rs:RS C p σ F H) (z:lA C.K p σ F e v) (h:lk p e=.lst ds):∃a vs,v=.ref a/\H a=some (.lst vs)/\aN C.K F ds vs:=by
 cases e with
 | fz x=>
  dsimp only [lk] at h;subst h
  cases z with
  | lst q r=>exact ⟨_,_,rfl,rs.sub _ _ q,r⟩
 | ow j=>
  obtain ⟨⟨s,h1,m⟩,h2⟩:=z
  dsimp only [lk] at h
  rw [h1] at h
  obtain ⟨w,e1,sr⟩:=rs.sl j s h1
  rw [h2] at e1;cases e1
  cases s with
  | d x=>cases m
  | own xs=>
   obtain ⟨a,vs,rfl,_,_,n,r⟩:=sr
   cases h
   exact ⟨a,vs,rfl,n,r⟩
  | bor xs=>
   obtain ⟨a,vs,rfl,_,_,n,r⟩:=sr
   cases h
   exact ⟨a,vs,rfl,n,r⟩
theorem wA {e:Ev} {v:V} {ds:List D} (rs:RS C p σ F H) (n:lA C.K p σ F e v) (h:lk p e=.tup ds):∃a vs,v=.ref a/\H a=some (.tup vs)/\aN C.K F ds vs:=by
 cases wz n h with
 | tup q r=>exact ⟨_,_,rfl,rs.sub _ _ q,r⟩
theorem Wv {ns:List Int} (rs:RS C p σ F H) (n:lA C.K p σ F e v) (h:lk p e=.Aj ns):∃a,v=.ref a/\iV C.K H a (ns.map V.int):=by
 cases wz n h with
 | Aj q=>exact ⟨_,rfl,rs.sub.seq q⟩
theorem wB {e:Ev} {v:V} {ks:List Key} {ds:List D} (rs:RS C p σ F H) (n:lA C.K p σ F e v) (h:lk p e=.lK ks ds):∃a vs,v=.ref a/\H a=some (.dK (ks.zip vs))/\ks.length=vs.length/\aN C.K F ds vs:=by
 cases wz n h with
 | lK q l r=>exact ⟨_,_,rfl,rs.sub _ _ q,l,r⟩
theorem Ww {e:Ev} {v:V} {n:Addr} (rs:RS C p σ F H) (z:lA C.K p σ F e v) (h:lk p e=.exc n):∃a,v=.ref a/\H a=some (XO a n):=by
 cases wz z h with
 | exc q=>exact ⟨_,rfl,rs.sub _ _ q⟩
theorem RS.laid (rs:RS C p σ F H) (O:H a=none):RS C p σ F (upd H a o):=by
 have sm:=bY O o
 refine ⟨rs.sub.trans sm,rs.ext,rs.new,λb u e n=>sm b u (rs.keep b u e n),λb n e=>?_,rs.len,λi s e=>?_,rs.apart,rs.pin⟩
 ·have:=rs.grow b n
  cases q:H b with
  | none=>exact this q
  | some u=>rw [sm b u q] at e;cases e
 ·obtain ⟨v,e1,r⟩:=rs.sl i s e
  refine ⟨v,e1,?_⟩
  cases s with
  | d x=>exact r
  | own xs=>obtain ⟨b,vs,J,I,D,B,z⟩:=r;exact ⟨b,vs,J,I,D,sm _ _ B,z⟩
  | bor xs=>obtain ⟨b,vs,J,I,D,B,z⟩:=r;exact ⟨b,vs,J,I,D,sm _ _ B,z⟩
theorem RS.free {a:Addr} (rs:RS C p σ F H) (B:H a=none):F a=none/\C.H0 a=none/\Eb p σ a:=by
 refine ⟨rs.sub.free B,?_,λi s e m z=>?_⟩
 ·cases q:C.H0 a with
  | none=>rfl
  | some o=>exact absurd B (rs.grow a (by rw [q];intro w;cases w))
 ·obtain ⟨v,e1,r⟩:=rs.sl i s e
  rw [z] at e1;cases e1
  cases s with
  | d x=>cases m
  | own xs=>obtain ⟨b,vs,D,O,J,n,I⟩:=r;cases D;rw [B] at n;cases n
  | bor xs=>obtain ⟨b,vs,D,O,J,n,I⟩:=r;cases D;rw [B] at n;cases n
theorem RS.freeze (rs:RS C p σ F H) (Y:F a=none) (h0:C.H0 a=none) (U:H a=some o) (O:Eb p σ a):RS C p σ (upd F a o) H:=by
 have sm:=bY Y o
 refine ⟨λb u e=>?_,rs.ext.trans sm,λb u e=>?_,rs.keep,rs.grow,rs.len,λi s e=>?_,rs.apart,rs.pin⟩
 ·by_cases n:b=a
  ·subst n;rw [aL] at e;cases e;exact U
  ·rw [aJ n] at e;exact rs.sub b u e
 ·by_cases n:b=a
  ·subst n;exact .inr (.inl h0)
  ·rw [aJ n] at e;exact rs.new b u e
 ·obtain ⟨v,e1,r⟩:=rs.sl i s e
  refine ⟨v,e1,?_⟩
  cases s with
  | d x=>exact Rep.mono sm r
  | own xs=>
   obtain ⟨b,vs,rfl,J,I,D,B⟩:=r
   have n:b≠a:=λz=>O i _ e rfl (z▸e1)
   exact ⟨b,vs,rfl,by rw [aJ n];exact J,I,D,B.mono sm⟩
  | bor xs=>
   obtain ⟨b,vs,rfl,J,I,D,B⟩:=r
   have n:b≠a:=λz=>O i _ e rfl (z▸e1)
   exact ⟨b,vs,rfl,by rw [aJ n];exact J,I,D,B.mono sm⟩
theorem RS.put (rs:RS C p σ F H) (n:H a=none):RS C p σ (upd F a o) (upd H a o):=by
 obtain ⟨h1,h2,h3⟩:=rs.free n
 exact (rs.laid (o:=o) n).freeze h1 h2 aL h3
theorem RS.write {s:Sl} (rs:RS C p σ F H) (Y:p[i]? = some (some s)) (m:s.mu=true) (hσ:σ[i]? = some (some (.ref a))) (hr:aN C.K F ys us) :
  RS C (p.set i (some (s.put ys))) σ F (upd H a (.lst us))/\jM p (p.set i (some (s.put ys))):=by
 have hi:i<p.length:=(zp.mp Y).1
 obtain ⟨v,e1,r⟩:=rs.sl i s Y
 rw [hσ] at e1;cases e1
 have fa:F a=none/\(C.H0 a=none\/∃q∈C.bs,q.2=a)/\∃vs,H a=some (.lst vs):=by
  cases s with
  | d x=>cases m
  | own xs=>obtain ⟨b,vs,e,B,I,J,U⟩:=r;cases e;exact ⟨B,.inl I,vs,J⟩
  | bor xs=>obtain ⟨b,vs,e,B,I,J,U⟩:=r;cases e;exact ⟨B,.inr I,vs,J⟩
 obtain ⟨fa,ha,vs0,hH⟩:=fa
 have hm:(s.put ys).mu=true:=by cases s<;>first|rfl|cases m
 refine ⟨⟨λb u e=>?_,rs.ext,rs.new,λb u e n=>?_,λb n e=>?_,by rw [zR];exact rs.len,λj s' e=>?_,λj k s1 s2 b hjk e1 m1 e2 m2 x1 x2=>?_,λq hq=>?_⟩,⟨zR,λj s' e m'=>?_⟩⟩
 ·rw [aJ (λz=>by rw [z,fa] at e;cases e)];exact rs.sub b u e
 ·have O:b≠a:=λz=>by
   subst z
   rcases ha with z|⟨q,hq,z⟩
   ·rw [z] at e;cases e
   ·exact n q hq z
  rw [aJ O];exact rs.keep b u e n
 ·by_cases O:b=a
  ·subst O;rw [aL] at e;cases e
  ·rw [aJ O] at e;exact rs.grow b n e
 ·by_cases D:j=i
  ·subst D
   rw [zF hi] at e
   cases e
   refine ⟨.ref a,hσ,?_⟩
   cases s with
   | d x=>cases m
   | own xs=>obtain ⟨b,vs,e,B,I,J,U⟩:=r;cases e;exact ⟨a,us,rfl,fa,I,aL,hr⟩
   | bor xs=>obtain ⟨b,vs,e,B,I,J,U⟩:=r;cases e;exact ⟨a,us,rfl,fa,I,aL,hr⟩
  ·rw [zi (Ne.symm D)] at e
   obtain ⟨v,e1,r'⟩:=rs.sl j s' e
   refine ⟨v,e1,?_⟩
   cases s' with
   | d x=>exact r'
   | own xs=>
    obtain ⟨b,vs,rfl,B,I,J,U⟩:=r'
    have O:b≠a:=λz=>rs.apart j i _ _ a D e rfl Y m (z▸e1) hσ
    exact ⟨b,vs,rfl,B,I,by rw [aJ O];exact J,U⟩
   | bor xs=>
    obtain ⟨b,vs,rfl,B,I,J,U⟩:=r'
    have O:b≠a:=λz=>rs.apart j i _ _ a D e rfl Y m (z▸e1) hσ
    exact ⟨b,vs,rfl,B,I,by rw [aJ O];exact J,U⟩
 ·have back:∀(j:Nat) (s':Sl),(p.set i (some (s.put ys)))[j]? = some (some s')->∃Z,p[j]? = some (some Z)/\(s'.mu=true->Z.mu=true):=λj s' e=>by
   by_cases D:j=i
   ·subst D;exact ⟨s,Y,λ_=>m⟩
   ·rw [zi (Ne.symm D)] at e;exact ⟨s',e,id⟩
  obtain ⟨t1,f1,g1⟩:=back j s1 e1
  obtain ⟨t2,f2,g2⟩:=back k s2 e2
  exact rs.apart j k t1 t2 b hjk f1 (g1 m1) f2 (g2 m2) x1 x2
 ·obtain ⟨z1,xs,B⟩:=rs.pin q hq
  refine ⟨z1,?_⟩
  by_cases D:q.1=i
  ·rw [D] at B ⊢
   rw [Y] at B;cases B
   exact ⟨ys,by rw [zF hi];rfl⟩
  ·exact ⟨xs,by rw [zi (Ne.symm D)];exact B⟩
 ·by_cases D:j=i
  ·subst D;exact ⟨_,zF hi,hm⟩
  ·exact ⟨s',by rw [zi (Ne.symm D)];exact e,m'⟩
end
section
variable {X:Cx} {C:Pc} {a b c e:Expr} {ta tb tc:TQ} {pos:Pos} {K:PySem.W.Frag}
def qN (i:Nat):TQ:=λp Q=>∃s,p[i]? = some (some s)/\Q (s.ev i) p
theorem qw {i:Nat} (h:PE X e (An i)):PE X e (Up C (qN i)):=QE.mk h λp σ F H R n z=>by
 obtain ⟨s,e1,q⟩:=z
 obtain ⟨v,e2,r⟩:=n.sl i s e1
 refine ⟨v,e2,s.ev i,p,F,n,.refl _,.refl _,?_,q⟩
 cases s with
 | d x=>exact r
 | own xs=>exact ⟨⟨_,e1,rfl⟩,e2⟩
 | bor xs=>exact ⟨⟨_,e1,rfl⟩,e2⟩
def qC (x:D):TQ:=λp Q=>Q (.fz x) p
theorem dY {v:V} {x:D} (h:PE X e (tC v)) (r:∀F,Rep C.K F x v):PE X e (Up C (qC x)):=QE.mk h λp σ F H R n q=>⟨.fz x,p,F,n,.refl _,.refl _,r F,q⟩
def q2 (Cn:Int->Int->Prop) (g:Int->Int->D) (z n:TQ):TQ:=λp Q=>z p λe1 p1=>n p1 λe2 p2=>∃i j,lk p2 e1=.int i/\lk p2 e2=.int j/\Cn i j/\Q (.fz (g i j)) p2
def Lj (g:Int->Int->D) (z n:TQ):TQ:=λp Q=>z p λe1 p1=>n p1 λe2 p2=>∃i j,lk p2 e1=.int i/\lk p2 e2=.int j/\Q (.fz (g i j)) p2
theorem aZ {p p1:aO} {z:St} {F n H1:Hp} {R:Ev->aO->Prop} {x:D} {v:V} (rs:RS C p1 z n H1) (B:aP F n) (sh:jM p p1) (r:Rep C.K n x v) (q:R (.fz x) p1):XQ C p z F R v H1:=⟨.fz x,p1,n,rs,B,sh,r,q⟩
theorem Rp (U:g8 X (binaryOp op) (rI Cn gv)) (Y:∀i j F,Rep C.K F (g i j) (gv i j)) (ha:PE X a (Up C ta)) (Z:PE X b (Up C tb)) :
  PE X (.BinOp a op b pos) (Up C (q2 Cn g ta tb)):=
 QE.mk (su U ha Z) λp σ F H R J O=>sV J O λe1 e2 p1 v1 v2 F1 H1 n I sh B z D=>by obtain ⟨i,j,h1,h2,c,q⟩:=D;exact ⟨i,j,aY B h1,aY z h2,c,aZ n I sh (Y i j F1) q⟩
theorem Lk (U:g8 X (binaryOp op) (Dq gv)) (Y:∀i j F,Rep C.K F (g i j) (gv i j)) (ha:PE X a (Up C ta)) (Z:PE X b (Up C tb)) :
  PE X (.BinOp a op b pos) (Up C (Lj g ta tb)):=
 QE.mk (su U ha Z) λp σ F H R J O=>sV J O λe1 e2 p1 v1 v2 F1 H1 n I sh B z D=>by obtain ⟨i,j,h1,h2,q⟩:=D;exact ⟨i,j,aY B h1,aY z h2,aZ n I sh (Y i j F1) q⟩
theorem dz (z:PE X a (Up C ta)) (n:PE X b (Up C tb)):PE X (.BinOp a .Add b pos) (Up C (Lj (λi j=>.int (i+j)) ta tb)):=Lk VL (λ_ _ _=>.int _) z n
theorem cH (z:PE X a (Up C ta)) (n:PE X b (Up C tb)):PE X (.BinOp a .Sub b pos) (Up C (Lj (λi j=>.int (i - j)) ta tb)):=Lk VM (λ_ _ _=>.int _) z n
theorem qy (z:PE X a (Up C ta)) (n:PE X b (Up C tb)):PE X (.BinOp a .Mult b pos) (Up C (q2 Dr (λi j=>.int (i * j)) ta tb)):=Rp VN (λ_ _ _=>.int _) z n
def Fits (j:Int):Prop:=j.natAbs.log2<9000
theorem Fits.of {j:Int} {n:Nat} (h0:0<j) (h:j<2 ^ n) (z:n<=9000):Fits j:=by
 unfold Fits
 have h1:j.natAbs<2 ^ n:=by
  have:((j.natAbs:Nat):Int)=j:=by omega
  have h2:((j.natAbs:Nat):Int)<((2 ^ n:Nat):Int):=by rw [this];push_cast;exact h
  exact_mod_cast h2
 have h2:j.natAbs≠0:=by omega
 exact zE ((Nat.log2_lt h2).mpr h1) z
def Gs (i j:Int):Prop:=0<j/\(j<2 ^ 64\/Fits j)
theorem Ln:g8 X (binaryOp .FloorDiv) (rI Gs λi j=>.int (i / j)):=λpins s σ H x y v u Q I J D ⟨i,j,h1,h2,⟨B,z⟩,q⟩=>Kv pins s σ H x y v u Q I J D ⟨i,j,h1,h2,⟨B,by
 rcases z with z|z
 ·exact Fits.of (n:=64) B z (by decide)
 ·exact z⟩,q⟩
theorem jm (z:PE X a (Up C ta)) (n:PE X b (Up C tb)):PE X (.BinOp a .FloorDiv b pos) (Up C (q2 Gs (λi j=>.int (i / j)) ta tb)):=Rp Ln (λ_ _ _=>.int _) z n
def Wx (i j:Int):Prop:=0<j
theorem u9 (z:PE X a (Up C ta)) (n:PE X b (Up C tb)):PE X (.BinOp a .Mod b pos) (Up C (q2 Wx (λi j=>.int (i % j)) ta tb)):=Rp (Cn:=Wx) VP (λ_ _ _=>.int _) z n
theorem Gu (z:PE X a (Up C ta)) (n:PE X b (Up C tb)):PE X (.BinOp a .Pow b pos) (Up C (q2 QD (λi j=>.int (i ^ j.toNat)) ta tb)):=Rp J8 (λ_ _ _=>.int _) z n
theorem aad (z:PE X a (Up C ta)) (n:PE X b (Up C tb)):PE X (.BinOp a .BitAnd b pos) (Up C (Lj (λi j=>.int (Builtin.bitAnd i j)) ta tb)):=Lk VR (λ_ _ _=>.int _) z n
def q1 (g:Int->D) (n:TQ):TQ:=λp Q=>n p λe1 p1=>∃i,lk p1 e1=.int i/\Q (.fz (g i)) p1
def gh (t:TQ):m8:=λp Q=>t p λe p1=>∃b,lk p1 e=.bl b/\Q b p1
theorem Gv {z:CmpOp} {J:Int->Int->Bool} (ho:g8 X (compareOp z) (Dq λi j=>.bl (J i j))) (hm:behindInMarks z b=false) (ha:PE X a (Up C ta)) (B:PE X b (Up C tb)) :
  PT X (.Compare a [z] [b] pos) (gf C (gh (Lj (λi j=>.bl (J i j)) ta tb))):=
 QT.mk (gD ho ha B hm) λp σ F H R Y Z=>sV Y Z λe1 e2 p1 v1 v2 F1 H1 n U sh I D O=>by obtain ⟨i,j,h1,h2,b,B,q⟩:=O;exact ⟨i,j,aY I h1,aY D h2,b,by cases B;rfl,p1,F1,n,U,sh,q⟩
theorem uK (z:PE X a (Up C ta)) (n:PE X b (Up C tb)):PT X (.Compare a [.Lt] [b] pos) (gf C (gh (Lj (λi j=>.bl (decide (i<j))) ta tb))):=Gv ZM (gO _) z n
theorem adk (z:PE X a (Up C ta)) (n:PE X b (Up C tb)):PT X (.Compare a [.LtE] [b] pos) (gf C (gh (Lj (λi j=>.bl (decide (i<=j))) ta tb))):=Gv jK (gO _) z n
theorem Ec (z:PE X a (Up C ta)) (n:PE X b (Up C tb)):PT X (.Compare a [.Gt] [b] pos) (gf C (gh (Lj (λi j=>.bl (decide (j<i))) ta tb))):=Gv ZP (gO _) z n
theorem Lp (z:PE X a (Up C ta)) (n:PE X b (Up C tb)):PT X (.Compare a [.GtE] [b] pos) (gf C (gh (Lj (λi j=>.bl (decide (j<=i))) ta tb))):=Gv ZQ (gO _) z n
noncomputable def Bv (x y:D):Bool:=@decide (x=y) (Classical.propDecidable _)
inductive jA:D->D->Prop
 | int (i j:Int):jA (.int i) (.int j)
 | bl (i j:Bool):jA (.bl i) (.bl j)
 | str (i j:Str):jA (.str i) (.str j)
theorem Gw (i j:Int):Bv (.int i) (.int j)=decide (i=j):=decide_eq_decide.mpr (iff_of_eq (D.int.injEq i j))
theorem Lq (i j:Bool):Bv (.bl i) (.bl j)=decide (i=j):=decide_eq_decide.mpr (iff_of_eq (D.bl.injEq i j))
theorem Gx (i j:Str):Bv (.str i) (.str j)=decide (i=j):=decide_eq_decide.mpr (iff_of_eq (D.str.injEq i j))
theorem Lr (x:D):Bv x x=true:=by unfold Bv;simp
theorem Rq (i j:Int):jA (.int i) (.int j)=True:=eq_true (.int i j)
theorem Wy (i j:Bool):jA (.bl i) (.bl j)=True:=eq_true (.bl i j)
theorem Rr (i j:Str):jA (.str i) (.str j)=True:=eq_true (.str i j)
theorem wC {x y:D} {e1 e2:Ev} {J I:V} {p:aO} {B:St} {F:Hp} (d:jA x y) (z:lA C.K p B F e1 J) (n:lA C.K p B F e2 I) (h1:lk p e1=x) (h2:lk p e2=y):J9 J I (Bv x y):=by
 cases d with
 | int i j=>rw [aY z h1,aY n h2,Gw];exact .int i j
 | bl i j=>rw [qu z h1,qu n h2,Lq];exact .bl i j
 | str i j=>rw [bI z h1,bI n h2,Gx];exact .str i j
def Zg (f:Bool->Bool) (z n:TQ):TQ:=λp Q=>z p λe1 p1=>n p1 λe2 p2=>jA (lk p2 e1) (lk p2 e2)/\Q (.fz (.bl (f (Bv (lk p2 e1) (lk p2 e2))))) p2
theorem Ls (hK:X.K=C.K) (Z:X.A.units+64<cLine) (Y:PE X a (Up C ta)) (U:PE X b (Up C tb)):PE X (.Compare a [.Eq] [b] pos) (Up C (Zg (λk=>k) ta tb)):=
 QE.mk (qY Ui Y U (gO _)) λp σ F H R J O=>sV J O λe1 e2 p1 v1 v2 F1 H1 n I sh B z D=>by obtain ⟨d,q⟩:=D;exact ⟨_,wC d B z rfl rfl,aZ n I sh (.bl _) q⟩
theorem adl (hK:X.K=C.K) (Z:X.A.units+64<cLine) (Y:PE X a (Up C ta)) (U:PE X b (Up C tb)):PE X (.Compare a [.NotEq] [b] pos) (Up C (Zg (λk=>!k) ta tb)):=
 QE.mk (qY Uj Y U (gO _)) λp σ F H R J O=>sV J O λe1 e2 p1 v1 v2 F1 H1 n I sh B z D=>by obtain ⟨d,q⟩:=D;exact ⟨_,wC d B z rfl rfl,aZ n I sh (.bl _) q⟩
theorem gF (hK:X.K=C.K) (hu:X.A.units+64<cLine) (Z:PE X a (Up C ta)) (Y:PE X b (Up C tb)):PT X (.Compare a [.Eq] [b] pos) (gf C (gh (Zg (λk=>k) ta tb))):=
 QT.mk (gD Ui Z Y (gO _)) λp σ F H R J O=>sV J O λe1 e2 p1 v1 v2 F1 H1 n I sh B z D=>by obtain ⟨d,k,U,q⟩:=D;exact ⟨_,wC d B z rfl rfl,k,by cases U;rfl,p1,F1,n,I,sh,q⟩
theorem Lw (hK:X.K=C.K) (hu:X.A.units+64<cLine) (Z:PE X a (Up C ta)) (Y:PE X b (Up C tb)):PT X (.Compare a [.NotEq] [b] pos) (gf C (gh (Zg (λk=>!k) ta tb))):=
 QT.mk (gD Uj Z Y (gO _)) λp σ F H R J O=>sV J O λe1 e2 p1 v1 v2 F1 H1 n I sh B z D=>by obtain ⟨d,k,U,q⟩:=D;exact ⟨_,wC d B z rfl rfl,k,by cases U;rfl,p1,F1,n,I,sh,q⟩
def Ru:D->Bool
 | .non=>true
 | .atom v=>decide (v=.non)
 | _=>false
theorem Lx (rs:RS C p σ F H) (n:lA C.K p σ F e1 v):decide (v=.non)=Ru (lk p e1):=by
 cases e1 with
 | fz x=>cases (show Rep C.K F x v from n)<;>rfl
 | ow i=>
  obtain ⟨⟨s,h1,m⟩,h2⟩:=n
  obtain ⟨w,e1,sr⟩:=rs.sl i s h1
  rw [h2] at e1;cases e1
  show _=Ru (match p[i]? with|some (some s)=>s.val|_=>.non)
  rw [h1]
  cases s with
  | d x=>cases m
  | own xs=>obtain ⟨a,vs,rfl,_⟩:=sr;rfl
  | bor xs=>obtain ⟨a,vs,rfl,_⟩:=sr;rfl
def Rv (f:Bool->Bool) (n:TQ):TQ:=λp Q=>n p λe1 p1=>Q (.fz (.bl (f (Ru (lk p1 e1))))) p1
theorem Bw {j pos'} (U:PE X a (Up C ta)):PT X (.Compare a [.Is] [.Constant .none j pos'] pos) (gf C (gh (Rv (λk=>k) ta))):=
 QT.mk (Dl (Vt U)) λp σ F H R I J=>up1 I J λe1 p1 v1 Y H1 n D sh z B=>by obtain ⟨k,O,q⟩:=B;exact ⟨k,by cases O;rw [Lx n z],p1,Y,n,D,sh,q⟩
theorem Ly {j pos'} (U:PE X a (Up C ta)):PT X (.Compare a [.IsNot] [.Constant .none j pos'] pos) (gf C (gh (Rv (λk=>!k) ta))):=
 QT.mk (Dl (Qu U)) λp σ F H R I J=>up1 I J λe1 p1 v1 Y H1 n D sh z B=>by obtain ⟨k,O,q⟩:=B;exact ⟨k,by cases O;rw [Lx n z],p1,Y,n,D,sh,q⟩
def Ed (f g:Int->Int->Bool) (D B z:TQ):TQ:=λp Q=>D p λe1 p1=>B p1 λe2 p2=>∃i j,lk p2 e1=.int i/\lk p2 e2=.int j /\
 if f i j=true then z p2 λe3 n=>∃k,lk n e3=.int k/\Q (.fz (.bl (g j k))) n else Q (.fz (.bl false)) p2
theorem dZ {c:Prop} [Decidable c] {A B z B':Prop} (h1:A->z) (h2:B->B') (h:if c then A else B):if c then z else B':=by
 by_cases n:c
 ·rw [zo n] at h ⊢;exact h1 h
 ·rw [zh n] at h ⊢;exact h2 h
theorem nO (ho:g8 X (compareOp op) (Dq λi j=>.bl (f i j))) (J:g8 X (compareOp op') (Dq λi j=>.bl (g i j))) (ha:PE X a (Up C ta)) (hb:PE X b (Up C tb)) (hc:PE X c (Up C tc))
  (hm:lastMarks [op,op'] [b,c]=false:=by with_unfolding_all rfl):PT X (.Compare a [op,op'] [b,c] pos) (gf C (gh (Ed f g ta tb tc))):=
 QT.mk (J_ ho J ha hb hc hm) λp σ F H R rs ht=>sV rs ht λe1 e2 p1 v1 v2 F1 H1 n Z sh Y z B=>by
  obtain ⟨i,j,h1,h2,q⟩:=B
  refine ⟨i,j,aY Y h1,aY z h2,f i j,rfl,?_⟩
  refine dZ (λq=>?_) (λq=>?_) q
  ·refine up1 n q λe3 p3 v3 F3 H3 I s3 D U B=>?_
   obtain ⟨k,h3,l,O,q3⟩:=B
   refine ⟨j,k,aY z h2,aY U h3,l,by cases O;rfl,p3,F3,I,Z.trans s3,sh.trans D,q3⟩
  ·obtain ⟨l,O,q⟩:=q
   exact ⟨l,by cases O;rfl,p1,F1,n,Z,sh,q⟩
variable {tA Qv:m8} {rest:List Expr}
theorem eZ {t : TQ} (h : PE X e (Up C t)) (he : ∀ whole, isTrue e X.env whole = (do let v ← whole; standAt e.pos; holding [v] (truthy v)) := by intro _; rfl) : PT X e (gf C (gh t)) :=
  QT.mk (JP h he) λp σ F H R D I => up1 D I λe1 p1 v1 O H1 n B sh z ⟨k, J, q⟩ => ⟨k, qu z J, p1, O, n, B, sh, q⟩
def WD (t u:m8):m8:=λp Q=>t p λc p1=>if c=true then u p1 Q else Q false p1
def qOr (t u:m8):m8:=λp Q=>t p λc p1=>if c=true then Q true p1 else u p1 Q
def WK (t:m8):m8:=λp Q=>t p λc p1=>Q (!c) p1
theorem Ef (n:PT X a (gf C tA)):PW X (.BoolOp .And [a] pos) (gf C tA):=pw_and1 n
theorem jB (n:PT X a (gf C tA)):PW X (.BoolOp .Or [a] pos) (gf C tA):=pw_or1 n
theorem w_and (Y:PT X a (gf C tA)) (U:PW X (.BoolOp .And (b::rest) pos) (gf C Qv)):PW X (.BoolOp .And (a::b::rest) pos) (gf C (WD tA Qv)):=
 QW.mk (pw_and Y U) λp σ F H R J O=>qM J O λk p1 F1 H1 n D sh q=>dZ (λq=>qM n q λk2 p2 Z H2 B I z q2=>⟨p2,Z,B,D.trans I,sh.trans z,q2⟩) (λq=>⟨p1,F1,n,D,sh,q⟩) q
theorem w_or (Y:PT X a (gf C tA)) (U:PW X (.BoolOp .Or (b::rest) pos) (gf C Qv)):PW X (.BoolOp .Or (a::b::rest) pos) (gf C (qOr tA Qv)):=
 QW.mk (pw_or Y U) λp σ F H R J O=>qM J O λk p1 F1 H1 n D sh q=>dZ (λq=>⟨p1,F1,n,D,sh,q⟩) (λq=>qM n q λk2 p2 Z H2 B I z q2=>⟨p2,Z,B,D.trans I,sh.trans z,q2⟩) q
theorem eN (I:PT X a (gf C tA)):PT X (.UnaryOp .Not a pos) (gf C (WK tA)):=
 QT.mk (JR I) λp σ F H R B D=>qM B D λk p1 J H1 n z sh q=>⟨p1,J,n,z,sh,q⟩
def Lz (z n:TQ):TQ:=λp Q=>z p λe p1=>∃c,lk p1 e=.bl c/\if c=true then n p1 Q else Q (.fz (.bl false)) p1
def Rw (z n:TQ):TQ:=λp Q=>z p λe p1=>∃c,lk p1 e=.bl c/\if c=true then Q (.fz (.bl true)) p1 else n p1 Q
def Gy (n:TQ):TQ:=λp Q=>n p λe p1=>∃c,lk p1 e=.bl c/\Q (.fz (.bl (!c))) p1
theorem u_ {op} (h:PE X a (Up C ta)):PE X (.BoolOp op [a] pos) (Up C ta):=Vv h
theorem wD (ha:PE X a (Up C ta)) (hb:PE X (.BoolOp .And (b::rest) pos) (Up C tb)):PE X (.BoolOp .And (a::b::rest) pos) (Up C (Lz ta tb)):=
 QE.mk (Vw ha hb) λp σ F H R Y Z=>up1 Y Z λe1 p1 v1 F1 H1 n J sh I O=>by obtain ⟨k,hk,q⟩:=O;exact ⟨k,qu I hk,dZ (λq=>up1 n q λe2 p2 v2 F2 H2 B U z D q2=>⟨e2,p2,F2,B,J.trans U,sh.trans z,D,q2⟩) (λq=>aZ n J sh (.bl _) q) q⟩
theorem Us (ha:PE X a (Up C ta)) (hb:PE X (.BoolOp .Or (b::rest) pos) (Up C tb)):PE X (.BoolOp .Or (a::b::rest) pos) (Up C (Rw ta tb)):=
 QE.mk (Zu ha hb) λp σ F H R Y Z=>up1 Y Z λe1 p1 v1 F1 H1 n J sh I O=>by obtain ⟨k,hk,q⟩:=O;exact ⟨k,qu I hk,dZ (λq=>aZ n J sh (.bl _) q) (λq=>up1 n q λe2 p2 v2 F2 H2 B U z D q2=>⟨e2,p2,F2,B,J.trans U,sh.trans z,D,q2⟩) q⟩
theorem Eg (U:PE X a (Up C ta)):PE X (.UnaryOp .Not a pos) (Up C (Gy ta)):=
 QE.mk (Vx U) λp σ F H R I J=>up1 I J λe1 p1 v1 Y H1 n D sh z B=>by obtain ⟨k,O,q⟩:=B;exact ⟨k,qu z O,aZ n D sh (.bl _) q⟩
def qIf (t:m8) (z n:TQ):TQ:=λp Q=>t p λc p1=>if c=true then z p1 Q else n p1 Q
theorem nP (Z:PT X c (gf C tA)) (ha:PE X a (Up C ta)) (hb:PE X b (Up C tb)):PE X (.IfExp c a b pos) (Up C (qIf tA ta tb)):=
 QE.mk (JS Z ha hb) λp σ F H R U Y=>qM U Y λk p1 F1 H1 D O sh q=>
  dZ (λq=>up1 D q λe2 p2 v2 J H2 z I n B q2=>⟨e2,p2,J,z,O.trans I,sh.trans n,B,q2⟩) (λq=>up1 D q λe2 p2 v2 J H2 z I n B q2=>⟨e2,p2,J,z,O.trans I,sh.trans n,B,q2⟩) q
def qFz (t:TN):TQ:=λp Q=>t p λr p1=>Q (.fz r.val) p1
theorem Li.fz {r:Rt} {v:V} {p:aO} {n:St} {F H:Hp} (rs:RS C p n F H) (h:Li C p n F H r v):∃z,RS C p n z H/\aP F z/\Rep C.K z r.val v:=by
 cases r with
 | rd x=>exact ⟨F,rs,.refl _,h⟩
 | ro xs=>
  obtain ⟨a,vs,rfl,h1,h2,h3,h4,B⟩:=h
  exact ⟨_,rs.freeze h1 h2 h3 B,bY h1 _,.lst aL (h4.mono (bY h1 _))⟩
theorem aq {t:TN} (h:PE X e (m9 C t)):PE X e (Up C (qFz t)):=
 QE.mk h λp σ F H R I U=>Ro I U λr p1 v1 Z H1 z D sh J q=>by
  obtain ⟨Y,n,B,O⟩:=J.fz z
  exact aZ n (D.trans B) sh O q
def Rx (t:TQ):TN:=λp Q=>t p λe p1=>∃x,e=.fz x/\Q (.rd x) p1
theorem qz {t:TQ} (h:PE X e (Up C t)):PE X e (m9 C (Rx t)):=
 QN.mk h λp σ F H R I O=>up1 I O λe1 p1 v1 U H1 n D sh z B=>by obtain ⟨x,J,q⟩:=B;exact ⟨.rd x,p1,U,n,D,sh,by subst J;exact z,q⟩
variable {es:List Expr} {cI:TAQ}
def lB:TAQ:=λp Q=>Q [] p
def cC (z:TQ) (n:TAQ):TAQ:=λp Q=>z p λx p1=>n p1 λxs p2=>Q (x::xs) p2
theorem e_:PA X [] (gJ C lB):=QA.mk V4 λp σ F H R n q=>⟨[],p,F,n,.refl _,.refl _,.nil,q⟩
theorem aF (ha:PE X e (Up C ta)) (hr:PA X es (gJ C cI)) (hs:starEach (e::es) X.env=(false,eval e X.env)::starEach es X.env:=by rfl):PA X (e::es) (gJ C (cC ta cI)):=
 QA.mk (QV ha hr hs) λp σ F H R Z ht=>up1 Z ht λe1 p1 v1 F1 H1 B Y sh J q=>dR B q λD p2 U F2 H2 z O n I q2=>
  ⟨e1::D,p2,F2,z,Y.trans O,sh.trans n,.cons (J.mono O n) I,q2⟩
def Qj:List Ev->Option (List D)
 | []=>some []
 | .fz x::r=>match Qj r with
  | some xs=>some (x::xs)
  | none=>none
 | .ow _::_=>none
theorem sW:∀{es:List Ev} {vs:List V} {xs:List D},pG C.K p σ F es vs->Qj es=some xs->aN C.K F xs vs
 | _,_,_,.nil,h=>by cases h;exact .nil
 | .fz x::r,_,xs,.cons h1 h2,h=>by
  unfold Qj at h
  cases e:Qj r with
  | none=>rw [e] at h;cases h
  | some ys=>rw [e] at h;cases h;exact .cons h1 (sW h2 e)
 | .ow i::r,_,xs,.cons h1 h2,h=>by cases h
def Ry (t:TAQ):TN:=λp Q=>t p λes p1=>∃xs,Qj es=some xs/\xs.length<=100000/\Q (.ro xs) p1
theorem h_ (h:n<=100000):n<=sizeLine:=zY h (by decide)
theorem ig {p p1:aO} {B:St} {F n z:Hp} {R:Rt->aO->Prop} {xs:List D} {vs:List V} {a:Addr} (rs:RS C p1 B n z) (J:aP F n) (sh:jM p p1) (I:z a=none) (r:aN C.K n xs vs) (q:R (.ro xs) p1):XN C p B F R (.ref a) (upd z a (.lst vs)):=by
 obtain ⟨h1,h2,h3⟩:=rs.free I
 exact ⟨.ro xs,p1,n,rs.laid I,J,sh,⟨a,vs,rfl,h1,h2,aL,r,h3⟩,q⟩
theorem bN (h:PA X es (gJ C cI)):PE X (.List es pos) (m9 C (Ry cI)):=
 QN.mk (V6 h) λp σ F H R J U=>dR J U λes1 p1 D F1 H1 n I sh z B=>by
  obtain ⟨xs,O,Y,q⟩:=B
  have r:=sW z O
  exact ⟨h_ (by rw [<-r.length];exact Y),λa Z=>ig n I sh Z r q⟩
def Rz (t:TAQ):TQ:=λp Q=>t p λes p1=>∃xs,Qj es=some xs/\xs.length<=100000/\Q (.fz (.tup xs)) p1
theorem vf {x1} (h:PA X es (gJ C cI)):PE X (.Tuple es x1 pos) (Up C (Rz cI)):=
 QE.mk (V5 h) λp σ F H R O Y=>dR O Y λes1 p1 I F1 H1 n J sh z D=>by
  obtain ⟨xs,U,Z,q⟩:=D
  have r:=sW z U
  refine ⟨h_ (by rw [<-r.length];exact Z),λa B=>?_⟩
  obtain ⟨h1,h2,h3⟩:=n.free B
  exact aZ (n.put B) (J.trans (bY h1 _)) sh (.tup aL (r.mono (bY h1 _))) q
end
def Bx:D->Option (List D)
 | .lst ds=>some ds
 | .tup ds=>some ds
 | _=>none
def WL:D->Option (List D)
 | .lst ds=>some ds
 | .Aj ns=>some (ns.map D.int)
 | _=>none
def fO (p:aO) (i:Nat):Option (List D):=match p[i]? with
 | some (some (.own xs))=>some xs
 | some (some (.bor xs))=>some xs
 | _=>none
def putL (p:aO) (i:Nat) (n:List D):aO:=match p[i]? with
 | some (some s)=>p.set i (some (s.put n))
 | _=>p
def cut {α:Type} (xs:List α) (lo hi:Option Int):List α:=(xs.drop (HT.Ai xs.length 0 lo)).take (HT.Ai xs.length xs.length hi - HT.Ai xs.length 0 lo)
section
variable {X:Cx} {C:Pc} {a b c e:Expr} {ta tb tc:TQ} {pos:Pos} {K:PySem.W.Frag} {p:aO} {σ:St} {F H:Hp}
theorem aN.at {ds:List D} {vs:List V} {k:Int} {x:D} (r:aN K F ds vs) (h:gA ds k=some x):∃v,gA vs k=some v/\Rep K F x v:=by
 unfold gA at h ⊢
 rw [r.length] at h
 cases e:Bf vs.length k with
 | none=>rw [e] at h;cases h
 | some j=>rw [e] at h;exact r.get h
theorem aN.cut (r:aN K F ds vs) (lo hi:Option Int):aN K F (cut ds lo hi) (Io vs lo hi):=by
 unfold L2.cut Io
 rw [r.length]
 exact (r.drop _).take _
theorem LC (rs:RS C p σ F H) (n:lA C.K p σ F e1 v) (h:Bx (lk p e1)=some ds):∃a vs,v=.ref a/\(iV C.K H a vs\/Dm C.K H a vs)/\aN C.K F ds vs:=by
 cases e:lk p e1 with
 | lst xs=>rw [e] at h;cases h;obtain ⟨a,vs,h1,h2,h3⟩:=iD rs n e;exact ⟨a,vs,h1,.inl (.of h2),h3⟩
 | tup xs=>rw [e] at h;cases h;obtain ⟨a,vs,h1,h2,h3⟩:=wA rs n e;exact ⟨a,vs,h1,.inr (.of h2),h3⟩
 | _=>rw [e] at h;cases h
theorem aaf {e1:Ev} {v:V} {ds:List D} (rs:RS C p σ F H) (n:lA C.K p σ F e1 v) (h:WL (lk p e1)=some ds):∃a vs,v=.ref a/\iV C.K H a vs/\aN C.K F ds vs:=by
 cases e:lk p e1 with
 | lst xs=>rw [e] at h;cases h;obtain ⟨a,vs,h1,h2,h3⟩:=iD rs n e;exact ⟨a,vs,h1,.of h2,h3⟩
 | Aj ns=>rw [e] at h;cases h;obtain ⟨a,h1,h2⟩:=Wv rs n e;exact ⟨a,_,h1,h2,.wu ns⟩
 | _=>rw [e] at h;cases h
def qIx (z n:TQ):TQ:=λp Q=>z p λe1 p1=>n p1 λe2 p2=>∃ds k x,Bx (lk p2 e1)=some ds/\lk p2 e2=.int k/\gA ds k=some x/\Q (.fz x) p2
theorem RB (h:X.K=K):Qi X (λx y H Q=>V8 K x y H Q\/ZZ K x y H Q):=by subst h;exact Gj.or V9
theorem By (hK:X.K=C.K) (ha:PE X a (Up C ta)) (Z:PE X b (Up C tb)) (Y:nG b):PE X (.Subscript a b pos) (Up C (qIx ta tb)):=
 QE.mk (Kf (RB hK) ha Z Y) λp σ F H R O U=>sV O U λe1 e2 p1 v1 v2 F1 H1 n D sh B z J=>by
  obtain ⟨ds,k,x,h1,h2,h3,q⟩:=J
  obtain ⟨a1,vs,rfl,g,r⟩:=LC n B h1
  obtain ⟨v,e3,I⟩:=r.at h3
  rw [aY z h2]
  rcases g with g|g
  ·exact .inl ⟨a1,vs,k,v,rfl,rfl,g,e3,aZ n D sh I q⟩
  ·exact .inr ⟨a1,vs,k,v,rfl,rfl,g,e3,aZ n D sh I q⟩
abbrev TOQ:=aO->(Option Int->aO->Prop)->Prop
def WM (C:Pc) (t:TOQ):TO:=λσ H Q=>∃p F R,RS C p σ F H/\t p R/\∀o H1,(∃p1 n,RS C p1 σ n H1/\aP F n/\jM p p1/\R o p1)->Q o H1
def Eh:TOQ:=λp Q=>Q none p
def Ei (t:TQ):TOQ:=λp Q=>t p λe p1=>∃i,lk p1 e=.int i/\Q (some i) p1
theorem QO.mk {e:Option Expr} (h:PO X e t) (hi:∀p σ F H R,RS C p σ F H->t' p R->t σ H (λo H1=>∃p1 F1,RS C p1 σ F1 H1/\aP F F1/\jM p p1/\R o p1)):PO X e (WM C t'):=λpins s σ H Q I n=>by
 obtain ⟨p,F,R,z,D,J⟩:=n
 exact bu (h pins s σ H _ I (hi p σ F H R z D)) λ_ _ n=>by obtain ⟨o,H1,O,B,q1⟩:=n;exact ⟨o,H1,O,B,J o H1 q1⟩
theorem wG:PO X none (WM C Eh):=QO.mk Q0 λp σ F H R n q=>⟨p,F,n,.refl _,.refl _,q⟩
theorem pH (h:PE X e (Up C ta)):PO X (some e) (WM C (Ei ta)):=QO.mk (Q3 h) λp σ F H R I J=>up1 I J λe1 p1 v1 O H1 n D sh z B=>by obtain ⟨i,h1,q⟩:=B;exact ⟨i,aY z h1,p1,O,n,D,sh,q⟩
def nSl (B:TQ) (z th:TOQ):TN:=λp Q=>B p λe1 p1=>z p1 λlo p2=>th p2 λhi n=>∃ds,WL (lk n e1)=some ds/\Q (.ro (cut ds lo hi)) n
theorem adq {lo hi:Option Expr} {Z th:TOQ} {U:Pos} (hK:X.K=C.K) (he:PE X e (Up C ta)) (hl:PO X lo (WM C Z)) (hu:PO X hi (WM C th)):PE X (.Subscript e (.Slice lo hi none U) pos) (m9 C (nSl ta Z th)):=
 QN.mk (Bd (Ky hK) he hl hu) λp σ F H R rs ht=>up1 rs ht λe1 p1 v1 F1 H1 O s1 I Y q1=>by
  refine ⟨p1,F1,_,O,q1,λlo H2 D=>?_⟩
  obtain ⟨U,F2,J,s2,z,q2⟩:=D
  refine ⟨U,F2,_,J,q2,λhi H3 D=>?_⟩
  obtain ⟨p3,F3,B,s3,n,ds,h1,q3⟩:=D
  obtain ⟨a1,vs,rfl,g,r⟩:=aaf B (Y.mono (s2.trans s3) (z.trans n)) h1
  exact ⟨a1,vs,rfl,g,λq hq=>ig B (s1.trans (s2.trans s3)) (I.trans (z.trans n)) hq (r.cut lo hi) q3⟩
def WN (n:TQ):TN:=λp Q=>n p λe1 p1=>∃ds,lk p1 e1=.lst ds/\Q (.ro ds.reverse) p1
theorem aag {j} (U:X.K=C.K) (he:PE X e (Up C ta)):PE X (.Subscript e (.Slice none none (some (.UnaryOp .USub (.Constant (.int 1) j p1) p2)) p3) pos) (m9 C (WN ta)):=
 QN.mk (Rb U he) λp σ F H R I J=>up1 I J λe1 p1 v1 Y H1 n D sh z B=>by
  obtain ⟨ds,h1,q⟩:=B
  obtain ⟨a1,vs,rfl,g,r⟩:=iD n z h1
  exact ⟨a1,vs,rfl,.of g,λq' O=>ig n D sh O r.reverse q⟩
def WQ (z n:TQ):TN:=λp Q=>z p λe1 p1=>n p1 λe2 p2=>∃xs ys,lk p2 e1=.lst xs/\lk p2 e2=.lst ys/\xs.length+ys.length<=100000/\Q (.ro (xs++ys)) p2
theorem Gz (ha:PE X a (Up C ta)) (hb:PE X b (Up C tb)):PE X (.BinOp a .Add b pos) (m9 C (WQ ta tb)):=
 QN.mk (su Wb ha hb) λp σ F H R Z ht=>sV Z ht λe1 e2 p1 v1 v2 F1 H1 n Y sh I D U=>by
  obtain ⟨xs,ys,h1,h2,hz,q⟩:=U
  obtain ⟨a1,B,rfl,g1,O⟩:=iD n I h1
  obtain ⟨a2,z,rfl,g2,J⟩:=iD n D h2
  exact ⟨a1,a2,B,z,rfl,rfl,g1,g2,h_ (by rw [<-O.length,<-J.length];exact hz),λq' hq=>ig n Y sh hq (O.append J) q⟩
def WR (z n:TQ):TN:=λp Q=>z p λe1 p1=>n p1 λe2 p2=>∃xs k,lk p2 e1=.lst xs/\lk p2 e2=.int k/\k<2 ^ 62/\-(2 ^ 62)<=k/\xs.length * k.toNat<=100000/\Q (.ro (List.replicate k.toNat xs).flatten) p2
theorem aah (ha:PE X a (Up C ta)) (hb:PE X b (Up C tb)):PE X (.BinOp a .Mult b pos) (m9 C (WR ta tb)):=
 QN.mk (su Wc ha hb) λp σ F H R U Z=>sV U Z λe1 e2 p1 v1 v2 F1 H1 n O sh D B J=>by
  obtain ⟨xs,k,h1,h2,k1,k2,Y,q⟩:=J
  obtain ⟨a1,z,rfl,g1,I⟩:=iD n D h1
  rw [aY B h2]
  exact ⟨a1,k,z,rfl,rfl,g1,by omega,by omega,h_ (by rw [<-I.length];exact Y),λq' hq=>ig n O sh hq (I.rep _) q⟩
variable {es:List Expr} {cI:TAQ} {x:Str} {ps:Pos}
def WT (n:TAQ):TQ:=λp Q=>n p λes p1=>∃e ds,es=[e]/\Bx (lk p1 e)=some ds/\Q (.fz (.int ds.length)) p1
theorem qO {es:List Ev} {e:Ev} (h:pG C.K p σ F es vs) (z:es=[e]):∃v,vs=[v]/\lA C.K p σ F e v:=by
 subst z
 cases h with
 | cons h t=>cases t;exact ⟨_,rfl,h⟩
theorem uL {es:List Ev} {e f:Ev} {vs:List V} (h:pG C.K p σ F es vs) (z:es=[e,f]):∃v w,vs=[v,w]/\lA C.K p σ F e v/\lA C.K p σ F f w:=by
 subst z
 cases h with
 | cons h t=>
  cases t with
  | cons h' t=>cases t;exact ⟨_,_,rfl,h,h'⟩
theorem gm (hK:X.K=C.K) (Y:Gl X "len") (U:X.mg "len"=none) (Z:PA X [e] (gJ C cI)) (he:starEach [e] X.env=(false,eval e X.env)::starEach [] X.env:=by rfl):PE X (.Call (.Name "len" ps) [e] [] pos) (Up C (WT cI)):=
 QE.mk (eY (uY hK) Y U PySem.boot_len Z (he:=he)) λp σ F H R J O=>dR J O λes1 p1 D F1 H1 n I sh z B=>by
  obtain ⟨e1,ds,h1,h2,q⟩:=B
  obtain ⟨v,rfl,er⟩:=qO z h1
  obtain ⟨a1,vs,rfl,g,r⟩:=LC n er h2
  exact ⟨a1,vs,rfl,g,aZ n I sh (by rw [<-r.length];exact .int _) q⟩
def qI2 (f:Int->Int->Int) (n:TAQ):TQ:=λp Q=>n p λes p1=>∃e1 e2 i j,es=[e1,e2]/\lk p1 e1=.int i/\lk p1 e2=.int j/\Q (.fz (.int (f i j))) p1
theorem WW (hc:X.calm=true) (Z:Gl X "min") (Y:X.mg "min"=none) (ha:PA X [a,b] (gJ C cI)) (he:starEach [a,b] X.env=(false,eval a X.env)::starEach [b] X.env:=by rfl) (hpl:(backTo pos (starEach [b] X.env)).any (·.1)=false:=by rfl) :
  PE X (.Call (.Name "min" ps) [a,b] [] pos) (Up C (qI2 (λi j=>if j<i then j else i) cI)):=
 QE.mk (eY (Ig hc) Z Y (by kernel_rfl) ha (he:=he) (hpl:=hpl)) λp σ F H R O U=>dR O U λes1 p1 I F1 H1 n J sh z D=>by
  obtain ⟨e1,e2,i,j,h0,h1,h2,q⟩:=D
  obtain ⟨v,w,rfl,er,B⟩:=uL z h0
  exact ⟨i,j,by rw [aY er h1,aY B h2],aZ n J sh (.int _) q⟩
def wI (n:TAQ):TQ:=λp Q=>n p λes p1=>∃e1 e2 i j,es=[e1,e2]/\lk p1 e1=.int i/\lk p1 e2=.int j/\QC i j/\Q (.fz (.tup [.int (i / j),.int (i % j)])) p1
theorem vg (hg:Gl X "divmod") (hm:X.mg "divmod"=none) (z:PA X [a,b] (gJ C cI)) (he:starEach [a,b] X.env=(false,eval a X.env)::starEach [b] X.env:=by rfl) (hpl:(backTo pos (starEach [b] X.env)).any (·.1)=false:=by rfl) :
  PE X (.Call (.Name "divmod" ps) [a,b] [] pos) (Up C (wI cI)):=
 QE.mk (eY Ba hg hm (by kernel_rfl) z (he:=he) (hpl:=hpl)) λp σ F H R Y Z=>dR Y Z λes1 p1 O F1 H1 n U sh B I=>by
  obtain ⟨e1,e2,i,j,h0,h1,h2,c,q⟩:=I
  obtain ⟨v,w,rfl,er,D⟩:=uL B h0
  refine ⟨i,j,by rw [aY er h1,aY D h2],c,λa z=>?_⟩
  obtain ⟨J,z2,z3⟩:=n.free z
  exact aZ (n.put z) (U.trans (bY J _)) sh (.tup aL (.cons (.int _) (.cons (.int _) .nil))) q
def toI:D->Option Int
 | .int i=>some i
 | .bl b=>some (if b then 1 else 0)
 | _=>none
def WX (n:TAQ):TQ:=λp Q=>n p λes p1=>∃e i,es=[e]/\toI (lk p1 e)=some i/\Q (.fz (.int i)) p1
theorem WY (Z:Gl X "int") (Y:X.mg "int"=none) (ha:PA X [e] (gJ C cI)) (he:starEach [e] X.env=(false,eval e X.env)::starEach [] X.env:=by rfl):PE X (.Call (.Name "int" ps) [e] [] pos) (Up C (WX cI)):=
 QE.mk (o8 Ih Z Y (by kernel_rfl) ha (he:=he)) λp σ F H R O U=>dR O U λes1 p1 J F1 H1 n B sh z I=>by
  obtain ⟨e1,i,h1,h2,q⟩:=I
  obtain ⟨v,rfl,D⟩:=qO z h1
  cases e2:lk p1 e1 with
  | int j=>rw [e2] at h2;cases (h2);exact .inl ⟨i,by rw [aY D e2],aZ n B sh (.int _) q⟩
  | bl k=>rw [e2] at h2;cases h2;exact .inr ⟨k,by rw [qu D e2],aZ n B sh (.int _) q⟩
  | _=>rw [e2] at h2;cases h2
def wJ (T:String):D->Option Bool
 | .int _=>some (T == "int")
 | .bl _=>some (T == "bool" || T == "int")
 | .lst _=>some (T == "list")
 | .tup _=>some (T == "tuple")
 | .str _=>some (T == "str")
 | .non=>some false
 | .lK _ _=>some false
 | _=>none
def tyName (T:String):Prop:=T="int"\/T="bool"\/T="list"\/T="tuple"\/T="str"
def tyD:D->Option Value
 | .non=>some (.type "NoneType")
 | .bl _=>some (.type "bool")
 | .int _=>some (.type "int")
 | .str _=>some (.type "str")
 | .lst _=>some (.type "list")
 | .tup _=>some (.type "tuple")
 | .lK _ _=>some (.type "dict")
 | .exc C=>some (.ref C)
 | _=>none
def xfD (K:PySem.W.Frag):D->Prop
 | .exc C=>XF K C
 | _=>True
theorem Ej {e1:Ev} {v:V} {t:Value} (rs:RS C p σ F H) (n:lA C.K p σ F e1 v) (h:tyD (lk p e1)=some t) (z:xfD C.K (lk p e1)):Zf C.K H v t:=by
 cases e:lk p e1 with
 | int i=>rw [e] at h;cases h;rw [aY n e];exact .inl (.int _)
 | bl i=>rw [e] at h;cases h;rw [qu n e];exact .inl (.bl _)
 | lst xs=>rw [e] at h;cases h;obtain ⟨a1,vs,rfl,g,r⟩:=iD rs n e;exact .inl (.lst g)
 | tup xs=>rw [e] at h;cases h;obtain ⟨a1,vs,rfl,g,r⟩:=wA rs n e;exact .inl (.tup g)
 | str x=>rw [e] at h;cases h;rw [bI n e];exact .inl (.str _)
 | non=>rw [e] at h;cases h;rw [Wu n e];exact .inl .non
 | lK ks ds=>rw [e] at h;cases h;obtain ⟨a1,vs,rfl,g,l,r⟩:=wB rs n e;exact .inl (.dK g)
 | exc Cl=>rw [e] at h z;cases h;obtain ⟨a1,rfl,g⟩:=Ww rs n e;exact .inr ⟨a1,Cl,rfl,g,rfl,z⟩
 | _=>rw [e] at h;cases h
theorem RC {k:Bool} (hT:tyName T) (rs:RS C p σ F H) (z:lA C.K p σ F e1 v) (h:wJ T (lk p e1)=some k):∃t,Zf C.K H v t/\PySem.W.kitOne C.K t (.type T)=some k:=by
 obtain ⟨t,h1,n,h2⟩:∃t,tyD (lk p e1)=some t/\xfD C.K (lk p e1)/\PySem.W.kitOne C.K t (.type T)=some k:=by
  generalize lk p e1=d at h ⊢
  cases d<;>cases h<;>rcases hT with rfl|rfl|rfl|rfl|rfl<;>exact ⟨_,rfl,trivial,rfl⟩
 exact ⟨t,Ej rs z h1 n,h2⟩
def W0 (T:String) (n:TAQ):TQ:=λp Q=>n p λes p1=>∃e f k,es=[e,f]/\lk p1 f=.atom (.ty T)/\wJ T (lk p1 e)=some k/\Q (.fz (.bl k)) p1
theorem pI (hK:X.K=C.K) (hT:tyName T) (Z:Gl X "isinstance") (Y:X.mg "isinstance"=none) (ha:PA X [a,b] (gJ C cI)) (he:starEach [a,b] X.env=(false,eval a X.env)::starEach [b] X.env:=by rfl) (hpl:(backTo pos (starEach [b] X.env)).any (·.1)=false:=by rfl) :
  PE X (.Call (.Name "isinstance" ps) [a,b] [] pos) (Up C (W0 T cI)):=
 QE.mk (eY (Bu hK) Z Y (by kernel_rfl) ha (he:=he) (hpl:=hpl)) λp σ F H R O U=>dR O U λes1 p1 I F1 H1 n J sh z D=>by
  obtain ⟨e1,e2,k,h0,h1,h2,q⟩:=D
  obtain ⟨v,w,rfl,er,B⟩:=uL z h0
  obtain ⟨t,ty,ek⟩:=RC hT n er h2
  exact ⟨v,w,.type T,t,k,rfl,by rw [dI B h1];exact λu h=>h,ty,ek,aZ n J sh (.bl _) q⟩
theorem jN {i:Nat} {xs:List D} (rs:RS C p σ F H) (h:fO p i=some xs):∃s a vs,p[i]? = some (some s)/\s.mu=true/\σ[i]? = some (some (.ref a))/\H a=some (.lst vs)/\aN C.K F xs vs/\∀ys,putL p i ys=p.set i (some (s.put ys)):=by
 unfold fO at h
 split at h
 ·rename_i ys e
  cases h
  obtain ⟨v,e1,a,vs,rfl,I,B,z,n⟩:=rs.sl i _ e
  exact ⟨_,a,vs,e,rfl,e1,z,n,λys=>by unfold putL;rw [e]⟩
 ·rename_i ys e
  cases h
  obtain ⟨v,e1,a,vs,rfl,I,B,z,n⟩:=rs.sl i _ e
  exact ⟨_,a,vs,e,rfl,e1,z,n,λys=>by unfold putL;rw [e]⟩
 ·cases h
theorem RS.W3 {a:Addr} (rs:RS C p σ F H) (h:fO p i=some xs) (n:σ[i]? = some (some (.ref a))) (r:aN C.K F ys us):RS C (putL p i ys) σ F (upd H a (.lst us))/\jM p (putL p i ys):=by
 obtain ⟨s,D,vs,h1,h2,h3,h4,B,z⟩:=jN rs h
 rw [n] at h3;cases h3
 rw [z]
 exact rs.write h1 h2 n r
theorem GC {i:Nat} {xs:List D} {Q:V->Hp->Prop} (rs:RS C p σ F H) (h:fO p i=some xs) (k:∀a,σ[i]? = some (some (.ref a))->Zd C.K "list" (.ref a) H/\Q (.ref a) H):An i σ H λx H1=>Zd C.K "list" x H1/\Q x H1:=by
 obtain ⟨s,a,vs,h1,h2,h3,h4,z,n⟩:=jN rs h
 exact ⟨.ref a,h3,k a h3⟩
theorem LK {a:Addr} (rs:RS C p σ F H) (h:fO p i=some xs) (n:σ[i]? = some (some (.ref a))):Zd C.K "list" (.ref a) H:=by
 obtain ⟨s,D,vs,h1,h2,h3,h4,B,z⟩:=jN rs h
 rw [n] at h3;cases h3
 exact .inl ⟨rfl,vs,.of h4⟩
def RD (i:Nat) (n:TAQ):TQ:=λp Q=>(fO p i).isSome=true/\n p λes p2=>∃x xs,es=[.fz x]/\fO p2 i=some xs/\xs.length<100000/\Q (.fz .non) (putL p2 i (xs++[x]))
theorem iY {n:Pos} (hK:X.K=C.K) (ho:PE X o (An i)) (ha:PA X [e] (gJ C cI))
  (B:attributeBase o "append" X.env (eval o X.env)=eval o X.env:=by rfl)
  (I:((backTo pos (starEach [e] X.env)).all (λx=>!x.1) && (backToKw pos (keywordEach [] X.env)).all (λx=>x.1.isSome)
   && decide ([e].length+([]:List Keyword).length+(if ([]:List Keyword).isEmpty then 0 else 1)<30))=true:=by rfl)
  (z:(n.endLine == pos.line)=true:=by rfl) (hs:starEach [e] X.env=(false,eval e X.env)::starEach [] X.env:=by rfl):PE X (.Call (.Attribute o "append" n) [e] [] pos) (Up C (RD i cI)):=by
 refine QE.mk (Gk PySem.F.plainAttrs_list PySem.F.slot_list_append PySem.F.type_list_append Ip ho ha B I z hs rfl) λp σ F H R Y Z=>?_
 obtain ⟨h0,Z⟩:=Z
 obtain ⟨xs0,h0⟩:=yH.mp h0
 rw [hK]
 refine GC Y h0 λa1 hσ=>⟨LK Y h0 hσ,dR Y Z λes2 p2 vs2 F2 H2 D s2 O BJ zq=>?_⟩
 obtain ⟨x,xs,h2,h3,h4,q⟩:=zq
 obtain ⟨v,rfl,er⟩:=qO BJ h2
 obtain ⟨s,a',vs,g1,g2,g3,g4,g5,g6⟩:=jN D h3
 rw [hσ] at g3;cases g3
 obtain ⟨U,J⟩:=D.W3 h3 hσ (g5.append (.cons er .nil))
 exact ⟨a1,vs,v,rfl,rfl,g4,by rw [<-g5.length];exact zE h4 (by decide),aZ U s2 (O.trans J) .non q⟩
def LQ (i:Nat):TQ:=λp Q=>∃xs,fO p i=some xs/\Q (.fz .non) (putL p i xs.reverse)
theorem IV {n:Pos} (Z:X.K=C.K) (Y:PE X o (An i)) (B:attributeBase o "reverse" X.env (eval o X.env)=eval o X.env:=by rfl) (z:(n.endLine == pos.line)=true:=by rfl):PE X (.Call (.Attribute o "reverse" n) [] [] pos) (Up C (LQ i)):=by
 refine QE.mk (Kh PySem.F.plainAttrs_list PySem.F.slot_list_reverse PySem.F.type_list_reverse DP Y B z) λp σ F H R D U=>?_
 obtain ⟨xs,h3,q⟩:=U
 rw [Z]
 refine GC D h3 λa1 hσ=>⟨LK D h3 hσ,?_⟩
 obtain ⟨s,a',vs,g1,g2,O,g4,g5,g6⟩:=jN D h3
 rw [hσ] at O;cases O
 obtain ⟨J,I⟩:=D.W3 h3 hσ g5.reverse
 exact ⟨a1,vs,rfl,rfl,g4,aZ J (.refl _) I .non q⟩
end
structure gR where
 nx:aO->Prop
 rt:Rt->aO->Prop
 bk:aO->Prop:=λ_=>False
 ct:aO->Prop:=λ_=>False
abbrev jH:=gR->aO->Prop
def gR.dn (C:Pc) (F0:Hp) (E:gR):Ends where
 nx:=λσ H=>∃p F,RS C p σ F H/\aP F0 F/\E.nx p
 rt:=λv H=>∃r p σ F,RS C p σ F H/\aP F0 F/\Li C p σ F H r v/\E.rt r p
 bk:=λσ H=>∃p F,RS C p σ F H/\aP F0 F/\E.bk p
 ct:=λσ H=>∃p F,RS C p σ F H/\aP F0 F/\E.ct p
structure Ends.Le (A B:Ends):Prop where
 nx:∀σ H,A.nx σ H->B.nx σ H
 rt:∀v H,A.rt v H->B.rt v H
 bk:∀σ H,A.bk σ H->B.bk σ H
 ct:∀σ H,A.ct σ H->B.ct σ H
theorem Ends.Le.refl (A:Ends):Ends.Le A A:=⟨λ_ _ h=>h,λ_ _ h=>h,λ_ _ h=>h,λ_ _ h=>h⟩
theorem Ends.Le.trans {A B C:Ends} (a:Ends.Le A B) (b:Ends.Le B C):Ends.Le A C:=⟨λ_ _ h=>b.nx _ _ (a.nx _ _ h),λ_ _ h=>b.rt _ _ (a.rt _ _ h),λ_ _ h=>b.bk _ _ (a.bk _ _ h),λ_ _ h=>b.ct _ _ (a.ct _ _ h)⟩
theorem LR {E:gR} (s:aP F F1):(E.dn C F1).Le (E.dn C F):=⟨λ_ _ n=>by obtain ⟨p,G,a,b,c⟩:=n;exact ⟨p,G,a,s.trans b,c⟩,λ_ _ n=>by obtain ⟨r,p,σ,G,a,b,c⟩:=n;exact ⟨r,p,σ,G,a,s.trans b,c⟩,λ_ _ n=>by obtain ⟨p,G,a,b,c⟩:=n;exact ⟨p,G,a,s.trans b,c⟩,λ_ _ n=>by obtain ⟨p,G,a,b,c⟩:=n;exact ⟨p,G,a,s.trans b,c⟩⟩
def iU (C:Pc) (t:jH):TS:=λn σ H=>∃p F E,RS C p σ F H/\t E p/\(E.dn C F).Le n
def lM (p:aO) (i:Nat):Bool:=match p[i]? with
 | some (some (.bor _))=>false
 | _=>true
section
variable {X:Cx} {C:Pc} {a b c e:Expr} {ta tb tc:TQ} {pos:Pos} {K:PySem.W.Frag} {p:aO} {σ:St} {F H:Hp} {st:Stmt} {rest:List Stmt} {t u:jH}
theorem SP.le (l:Ends.Le A B) (h:SP X pins A f s'):SP X pins B f s':=by
 cases f with
 | next=>obtain ⟨σ',H',I,q⟩:=h;exact ⟨σ',H',I,l.nx _ _ q⟩
 | brk=>obtain ⟨σ',H',I,q⟩:=h;exact ⟨σ',H',I,l.bk _ _ q⟩
 | cont=>obtain ⟨σ',H',I,q⟩:=h;exact ⟨σ',H',I,l.ct _ _ q⟩
 | ret u=>obtain ⟨v,σ',H',I,r,q⟩:=h;exact ⟨v,σ',H',I,r,l.rt _ _ q⟩
theorem QS.mk {t:TS} (h:PS X st t) (hi:∀p σ F H E,RS C p σ F H->t' E p->t (E.dn C F) σ H):PS X st (iU C t'):=λpins s σ H D I n=>by
 obtain ⟨p,F,E,z,B,l⟩:=n
 exact bu (h pins s σ H _ I (hi p σ F H E z B)) λ_ _ q=>q.le l
theorem QSs.mk {t:TS} (h:gw X sts t) (hi:∀p σ F H E,RS C p σ F H->t' E p->t (E.dn C F) σ H):gw X sts (iU C t'):=λpins s σ H D I n=>by
 obtain ⟨p,F,E,z,B,l⟩:=n
 exact bu (h pins s σ H _ I (hi p σ F H E z B)) λ_ _ q=>q.le l
def GD:jH:=λE p=>E.nx p
def uM (t u:jH):jH:=λE p=>t { E with nx:=u E } p
theorem aQ:gw X [] (iU C GD):=QSs.mk vQ λp σ F H E n q=>⟨p,F,n,.refl _,q⟩
theorem bf (h1:PS X st (iU C t)) (h2:gw X rest (iU C u)):gw X (st::rest) (iU C (uM t u)):=
 QSs.mk (Ar h1 h2) λp σ F H E I q=>⟨p,F,_,I,q,⟨λz H1 B=>by obtain ⟨p1,J,n,D,q1⟩:=B;exact ⟨p1,J,E,n,q1,LR D⟩,λ_ _ h=>h,λ_ _ h=>h,λ_ _ h=>h⟩⟩
theorem aH (h1:PS X st (iU C t)):gw X [st] (iU C t):=Ge h1
def GF (t:TQ):jH:=λE p=>t p λ_ p1=>E.nx p1
theorem pJ (he:PE X e (Up C ta)) (I:swapsWith e none pos.line X.env=pure false:=by rfl):PS X (.Expr e pos) (iU C (GF ta)):=
 QS.mk (Gf he I) λp σ F H E B D=>up1 B D λe1 p1 v1 O H1 n z sh J q=>⟨p1,O,n,z,q⟩
def RG (t:TN):jH:=λE p=>t p E.rt
theorem bU {t:TN} (he:PE X e (m9 C t)):PS X (.Return (some e) pos) (iU C (RG t)):=
 QS.mk (JT he) λp σ F H E B I=>Ro B I λr p1 v1 J H1 n z sh D q=>⟨r,p1,σ,J,n,z,D,q⟩
def W4 (c:m8) (t u:jH):jH:=λE p=>c p λb p1=>if b=true then t E p1 else u E p1
theorem bA {c:Expr} {a b:List Stmt} {z:m8} (O:PT X c (gf C z)) (Y:gw X a (iU C t)) (U:gw X b (iU C u)):PS X (.If c a b pos) (iU C (W4 z t u)):=
 QS.mk (JV O Y U) λp σ F H E I J=>qM I J λk p1 D H1 n B sh q=>dZ (λq=>⟨p1,D,E,n,q,LR B⟩) (λq=>⟨p1,D,E,n,q,LR B⟩) q
def W6:jH:=λ_ _=>False
theorem pK:PS X st (iU C W6):=λ_ _ _ _ _ _ ⟨_,_,_,_,h,_⟩=>h.elim
theorem RS.clear (rs:RS C p σ F H) (h:lM p i=true):RS C (p.set i none) σ F H:=by
 refine ⟨rs.sub,rs.ext,rs.new,rs.keep,rs.grow,by rw [zR];exact rs.len,λj s e=>?_,λj k s s' x z e1 U e2 O J I=>?_,λq Y=>?_⟩
 ·by_cases n:i=j
  ·subst n
   rw [List.getElem?_set] at e
   simp at e
  ·rw [zi n] at e;exact rs.sl j s e
 ·have back:∀(j:Nat) (s:Sl),(p.set i none)[j]? = some (some s)->p[j]? = some (some s):=λj s e=>by
   by_cases n:i=j
   ·subst n;rw [List.getElem?_set] at e;simp at e
   ·rw [zi n] at e;exact e
  exact rs.apart j k s s' x z (back _ _ e1) U (back _ _ e2) O J I
 ·obtain ⟨D,xs,B⟩:=rs.pin q Y
  refine ⟨D,xs,?_⟩
  by_cases n:i=q.1
  ·rw [n] at h
   unfold lM at h
   rw [B] at h;cases h
  ·rw [zi n];exact B
theorem RS.uN (rs:RS C p σ F H) (h:lM p i=true) (r:Rep C.K F x v):RS C (p.set i (some (.d x))) (σ.set i (some v)) F H:=by
 have ne:∀q∈C.bs,i≠q.1:=λq B z=>by
  obtain ⟨J,xs,D⟩:=rs.pin q B
  rw [z] at h
  unfold lM at h
  rw [D] at h;cases h
 refine ⟨rs.sub,rs.ext,rs.new,rs.keep,rs.grow,by rw [zR,zR];exact rs.len,λj s e=>?_,λj k s s' y I e1 Z e2 Y U O=>?_,λq B=>?_⟩
 ·by_cases n:i=j
  ·subst n
   have hi:i<p.length:=by
    have:=(zp.mp e).1
    rwa [zR] at this
   rw [zF hi] at e
   cases e
   exact ⟨v,zF (by rw [<-rs.len];exact hi),r⟩
  ·rw [zi n] at e
   rw [zi n]
   exact rs.sl j s e
 ·have back:∀(j:Nat) (s:Sl),(p.set i (some (.d x)))[j]? = some (some s)->s.mu=true->i≠j/\p[j]? = some (some s):=λj s e m=>by
   by_cases n:i=j
   ·subst n
    have hi:i<p.length:=by
     have:=(zp.mp e).1
     rwa [zR] at this
    rw [zF hi] at e
    cases e;cases m
   ·rw [zi n] at e;exact ⟨n,e⟩
  obtain ⟨n1,f1⟩:=back j s e1 Z
  obtain ⟨n2,f2⟩:=back k s' e2 Y
  rw [zi n1] at U
  rw [zi n2] at O
  exact rs.apart j k s s' y I f1 Z f2 Y U O
 ·obtain ⟨J,xs,D⟩:=rs.pin q B
  exact ⟨by rw [zi (ne q B)];exact J,xs,by rw [zi (ne q B)];exact D⟩
theorem RS.adu (rs:RS C p σ F H) (h:lM p i=true) (h1:F x=none) (h2:C.H0 x=none) (h3:H x=some (.lst vs)) (h4:aN C.K F xs vs) (h5:Eb p σ x) :
  RS C (p.set i (some (.own xs))) (σ.set i (some (.ref x))) F H:=by
 have ne:∀q∈C.bs,i≠q.1:=λq I z=>by
  obtain ⟨Z,xs,O⟩:=rs.pin q I
  rw [z] at h
  unfold lM at h
  rw [O] at h;cases h
 have back:∀(j:Nat) (s:Sl),(p.set i (some (.own xs)))[j]? = some (some s)->(i=j/\i<p.length/\s=.own xs)\/(i≠j/\p[j]? = some (some s)):=λj s e=>by
  by_cases n:i=j
  ·subst n
   have hi:i<p.length:=by
    have:=(zp.mp e).1
    rwa [zR] at this
   rw [zF hi] at e
   cases e
   exact .inl ⟨rfl,hi,rfl⟩
  ·rw [zi n] at e;exact .inr ⟨n,e⟩
 refine ⟨rs.sub,rs.ext,rs.new,rs.keep,rs.grow,by rw [zR,zR];exact rs.len,λj s e=>?_,λj k s s' y J e1 m1 e2 m2 D B=>?_,λq I=>?_⟩
 ·rcases back j s e with ⟨rfl,hi,rfl⟩|⟨n,e⟩
  ·exact ⟨.ref x,zF (by rw [<-rs.len];exact hi),x,vs,rfl,h1,h2,h3,h4⟩
  ·rw [zi n]
   exact rs.sl j s e
 ·rcases back j s e1 with ⟨rfl,hi,rfl⟩|⟨n,f1⟩
  ·rcases back k s' e2 with ⟨rfl,_,rfl⟩|⟨U,Y⟩
   ·exact J rfl
   ·rw [zF (by rw [<-rs.len];exact hi)] at D
    cases D
    rw [zi U] at B
    exact h5 k s' Y m2 B
  ·rcases back k s' e2 with ⟨rfl,hi,rfl⟩|⟨U,Y⟩
   ·rw [zF (by rw [<-rs.len];exact hi)] at B
    cases B
    rw [zi n] at D
    exact h5 j s f1 m1 D
   ·rw [zi n] at D
    rw [zi U] at B
    exact rs.apart j k s s' y J f1 m1 Y m2 D B
 ·obtain ⟨Z,ys,O⟩:=rs.pin q I
  exact ⟨by rw [zi (ne q I)];exact Z,ys,by rw [zi (ne q I)];exact O⟩
def L_ (i:Nat):jH:=λE p=>∃xs,p[i]? = some (some (.own xs))/\E.rt (.ro xs) (p.set i none)
theorem pL (he:PE X e (An i)):PS X (.Return (some e) pos) (iU C (L_ i)):=QS.mk (JT he) λp σ F H E n D=>by
 obtain ⟨xs,h,q⟩:=D
 obtain ⟨v,e1,x,vs,rfl,U,O,J,I⟩:=n.sl i _ h
 have Z:lM p i=true:=by unfold lM;rw [h]
 have Y:Eb (p.set i none) σ x:=λj s e m z=>by
  by_cases B:i=j
  ·subst B;rw [List.getElem?_set] at e;simp at e
  ·rw [zi B] at e
   exact n.apart j i s _ x (Ne.symm B) e m h rfl z e1
 exact ⟨.ref x,e1,.ro xs,_,σ,F,n.clear Z,.refl _,⟨x,vs,rfl,U,O,J,I,Y⟩,q⟩
def Ma (i:Nat) (t:TQ):jH:=λE p=>t p λe p1=>∃x,e=.fz x/\lM p1 i=true/\E.nx (p1.set i (some (.d x)))
theorem aD {i:Nat} {x:Str} {n:Pos} (hN:X.N.Nodup) (hi:X.N[i]? = some x) (U:Loc X.env.scope x) (he:PE X e (Up C ta)) (Z:swapsWith e (some (.Name x n)) pos.line X.env=pure false:=by rfl) (hf:X.fn x=true\/X.env.scope.names.lookup x=some .local:=by first|exact .inl rfl|exact .inr rfl|assumption) :
  PS X (.Assign [.Name x n] e pos) (iU C (Ma i ta)):=
 QS.mk (Dp hN hi U he Z hf) λp σ F H E J Y=>up1 J Y λe1 p1 v1 F1 H1 z I sh B D=>by obtain ⟨y,O,hn,q⟩:=D;exact ⟨_,F1,z.uN hn (by subst O;exact B),I,q⟩
def GJ (i:Nat) (t:TN):jH:=λE p=>t p λr p1=>lM p1 i=true/\E.nx (p1.set i (some r.sl))
theorem iG {t:TN} (hN:X.N.Nodup) (hi:X.N[i]? = some x) (hx:Loc X.env.scope x) (he:PE X e (m9 C t)) (hs:swapsWith e (some (.Name x pos')) pos.line X.env=pure false:=by rfl) (hf:X.fn x=true\/X.env.scope.names.lookup x=some .local:=by first|exact .inl rfl|exact .inr rfl|assumption) :
  PS X (.Assign [.Name x pos'] e pos) (iU C (GJ i t)):=
 QS.mk (Dp hN hi hx he hs hf) λp σ F H E rs ht=>Ro rs ht λr p1 v1 I H1 n z sh B J=>by
  obtain ⟨D,q⟩:=J
  cases r with
  | rd y=>exact ⟨_,I,n.uN D B,z,q⟩
  | ro xs=>
   obtain ⟨x,vs,rfl,z1,Z,Y,U,O⟩:=B
   exact ⟨_,I,n.adu D z1 Z Y U O,z,q⟩
def IW (i:Nat) (g:Int->Int->Int) (Cn:Int->Int->Prop) (t:TQ):jH:=λE p=>∃n,p[i]? = some (some (.d (.int n)))/\t p λe p1=>∃j,lk p1 e=.int j/\Cn n j/\lM p1 i=true/\E.nx (p1.set i (some (.d (.int (g n j)))))
theorem Mf (ho:g8 X (inplaceOp op) r) (Z:∀i j H Q,Cn i j->Q (.int (g i j)) H->r (.int i) (.int j) H Q) (hN:X.N.Nodup) (hi:X.N[i]? = some x) (U:Loc X.env.scope x) (he:PE X e (Up C ta)) (hf:X.fn x=true\/X.env.scope.names.lookup x=some .local:=by first|exact .inl rfl|exact .inr rfl|assumption) :
  PS X (.AugAssign (.Name x pos') op e pos) (iU C (IW i g Cn ta)):=
 QS.mk (VB hN hi U he ho hf) λp σ F H E I z=>by
  obtain ⟨n,h0,Y⟩:=z
  obtain ⟨v,e1,O⟩:=I.sl i _ h0
  cases O
  exact ⟨.int n,e1,up1 I Y λe1 p1 v1 F1 H1 B J sh D z=>by
   obtain ⟨j,hj,hc,hn,q⟩:=z
   rw [aY D hj]
   exact Z n j H1 _ hc ⟨_,F1,B.uN hn (.int _),J,q⟩⟩
def tr2 (i j:Int):Prop:=True
theorem aak (hN:X.N.Nodup) (hi:X.N[i]? = some x) (n:Loc X.env.scope x) (he:PE X e (Up C ta)) (hf:X.fn x=true\/X.env.scope.names.lookup x=some .local:=by first|exact .inl rfl|exact .inr rfl|assumption) :
  PS X (.AugAssign (.Name x pos') .Add e pos) (iU C (IW i (λa b=>a+b) tr2 ta)):=Mf QF (λi j H Q _ q=>⟨i,j,rfl,rfl,q⟩) hN hi n he hf
theorem W7 (hN:X.N.Nodup) (hi:X.N[i]? = some x) (n:Loc X.env.scope x) (he:PE X e (Up C ta)) (hf:X.fn x=true\/X.env.scope.names.lookup x=some .local:=by first|exact .inl rfl|exact .inr rfl|assumption) :
  PS X (.AugAssign (.Name x pos') .Sub e pos) (iU C (IW i (λa b=>a - b) tr2 ta)):=Mf QH (λi j H Q _ q=>⟨i,j,rfl,rfl,q⟩) hN hi n he hf
theorem adw (hN:X.N.Nodup) (hi:X.N[i]? = some x) (n:Loc X.env.scope x) (he:PE X e (Up C ta)) (hf:X.fn x=true\/X.env.scope.names.lookup x=some .local:=by first|exact .inl rfl|exact .inr rfl|assumption) :
  PS X (.AugAssign (.Name x pos') .Mult e pos) (iU C (IW i (λa b=>a * b) Dr ta)):=Mf QJ (λi j H Q c q=>⟨i,j,rfl,rfl,c,q⟩) hN hi n he hf
def Mg (i:Nat) (z n:TQ):jH:=λE p=>z p λev p1=>(fO p1 i).isSome=true/\n p1 λB p2=>∃x xs k j,ev=.fz x/\fO p2 i=some xs/\lk p2 B=.int k/\Bf xs.length k=some j/\E.nx (putL p2 i (xs.set j x))
theorem Mh {k: Expr} {pt : Pos} (he : PE X e (Up C te)) (ho : PE X o (An i)) (O : PE X k (Up C tk))
    (ha : ∀ v, assign (.Subscript o k pt) X.env v = (do
      let ov ← holding [v] (eval o X.env)
      let iv ← holding [v, ov] (eval k X.env)
      standAt pt
      holding [v, ov, iv] (setItem ov iv v)
      release [v, ov, iv] []) := by intro _; rfl)
    (hs : swapsWithSole [.Subscript o k pt] e pos.line X.env = pure false := by rfl) (hw : swappedStores [.Subscript o k pt] e X.env = pure none := by rfl)
    (h1 : (assignEach [.Subscript o k pt] X.env).map (·.2) = [assign (.Subscript o k pt) X.env] := by rfl) :
    PS X (.Assign [.Subscript o k pt] e pos) (iU C (Mg i te tk)) :=
  QS.mk (Dn he (JX ho O set_list ha) hs hw h1) λp σ F H E rs J => up1 rs J λe1 p1 v1 F1 H1 z s1 sh Z B=>by
    obtain ⟨h0, J⟩:=B
    obtain ⟨xs0, h0⟩ := yH.mp h0
    obtain ⟨s, x, vs, g1, g2, U, g4, g5, g6⟩ := jN z h0
    refine ⟨.ref x, U, up1 z J λe2 p2 v2 F2 H2 n s2 Qk Y B=>?_⟩
    obtain ⟨y, xs, k, j, hy, hm, O, hj, q⟩:=B
    obtain ⟨s', x', D, k1, k2, k3, k4, k5, k6⟩ := jN n hm
    rw [U] at k3; cases k3
    subst hy
    obtain ⟨I, sh3⟩ := n.W3 hm U (aN.set (Rep.mono s2 Z) j k5)
    exact ⟨x, D, k, j, rfl, aY Y O, k4, by rw [← k5.length]; exact hj, _, F2, I, s1.trans s2, q⟩
end
abbrev sX:=D->aO->(aO->Prop)->Prop
abbrev uO:=List D->aO->(aO->Prop)->Prop
def XG (C:Pc) (F:Hp) (R:aO->Prop) (n:St) (B:Hp):Prop:=∃p1 z,RS C p1 n z B/\aP F z/\R p1
def I_ (C:Pc) (g:sX):TG:=λv σ H Q=>∃p F x R,RS C p σ F H/\Rep C.K F x v/\g x p R/\∀n H1,XG C F R n H1->Q n H1
def Ja (C:Pc) (g:uO):Qw:=λvs σ H Q=>∃p F xs R,RS C p σ F H/\aN C.K F xs vs/\g xs p R/\∀n H1,XG C F R n H1->Q n H1
section
variable {X:Cx} {C:Pc} {a b c e:Expr} {ta tb tc:TQ} {pos:Pos} {K:PySem.W.Frag} {p:aO} {σ:St} {F H:Hp} {st:Stmt} {rest:List Stmt} {t u:jH}
theorem QG.mk (h:PG X tg g) (hi:∀p σ F H x v R,RS C p σ F H->Rep C.K F x v->g' x p R->g v σ H (XG C F R)):PG X tg (I_ C g'):=λpins s σ H v u Q I r z=>by
 obtain ⟨p,F,x,R,D,B,O,J⟩:=z
 exact bu (h pins s σ H v u _ I r (hi p σ F H x v R D B O)) λ_ _ z=>by obtain ⟨n,H1,U,q1⟩:=z;exact ⟨n,H1,U,J n H1 q1⟩
theorem QGs.mk (h:vR X tgs g) (hi:∀p σ F H xs vs R,RS C p σ F H->aN C.K F xs vs->g' xs p R->g vs σ H (XG C F R)):vR X tgs (Ja C g'):=λpins s σ H v u Q I r z=>by
 obtain ⟨p,F,x,R,D,B,O,J⟩:=z
 exact bu (h pins s σ H v u _ I r (hi p σ F H x v R D B O)) λ_ _ z=>by obtain ⟨n,H1,U,q1⟩:=z;exact ⟨n,H1,U,J n H1 q1⟩
def Ek (i:Nat):sX:=λx p Q=>lM p i=true/\Q (p.set i (some (.d x)))
theorem aK {i:Nat} {x:Str} (hN:X.N.Nodup) (hi:X.N[i]? = some x) (D:Loc X.env.scope x) (hf:X.fn x=true\/X.env.scope.names.lookup x=some .local:=by first|exact .inl rfl|exact .inr rfl|assumption):PG X (.Name x pos) (I_ C (Ek i)):=
 QG.mk (Gg hN hi D hf) λp σ F H x v R B z n=>by obtain ⟨I,q⟩:=n;exact ⟨_,F,B.uN I z,.refl _,q⟩
def BK:uO:=λxs p Q=>xs=[]/\Q p
def pM (g:sX) (n:uO):uO:=λxs p Q=>∃x r,xs=x::r/\g x p λp1=>n r p1 Q
theorem fc:vR X [] (Ja C BK):=QGs.mk vU λp σ F H xs vs R B z n=>by
 obtain ⟨h,q⟩:=n
 subst h;cases z
 exact ⟨rfl,p,F,B,.refl _,q⟩
theorem aX {e:Expr} (h1:PG X e (I_ C g)) (h2:vR X es (Ja C gs))
  (hs:(assignEach (e::es) X.env).map (·.2)=assign e X.env::(assignEach es X.env).map (·.2):=by rfl):vR X (e::es) (Ja C (pM g gs)):=
 QGs.mk (Ax h1 h2 hs) λp σ F H xs vs R Y U n=>by
  obtain ⟨x,r,Z,q⟩:=n
  subst Z
  cases U with
  | cons r1 r2=>
   refine ⟨_,_,rfl,p,F,x,_,Y,r1,q,λJ H1 n=>?_⟩
   obtain ⟨p1,F1,B,D,q1⟩:=n
   exact ⟨p1,F1,r,R,B,r2.mono D,q1,λI H2 n=>by obtain ⟨p2,F2,z,O,q2⟩:=n;exact ⟨p2,F2,z,D.trans O,q2⟩⟩
def BL (n:Nat) (z:uO):sX:=λx p Q=>∃xs,x=.tup xs/\xs.length=n/\z xs p Q
theorem jO {k:Nat} {D:uO} (hK:X.K=C.K) (Z:X.calm=true) (h:vR X es (Ja C D)) (U:(assignEach es X.env).length=n:=by rfl) (z:(assignEach es X.env).findIdx? (·.1)=none:=by rfl):PG X (.Tuple es k pos) (I_ C (BL n D)):=
 QG.mk (Gp hK Z h U z) λp σ F H x v R B J I=>by
  obtain ⟨xs,O,Y,q⟩:=I
  subst O
  cases J with
  | tup q1 r1=>exact ⟨_,_,rfl,.of (B.sub _ _ q1),by rw [<-r1.length];exact Y,p,F,xs,R,B,r1,q,λ_ _ h=>h⟩
def W8 (t:TQ) (g:sX):jH:=λE p=>t p λe p1=>∃x,e=.fz x/\g x p1 E.nx
theorem gB {e:Expr} (he:PE X e (Up C ta)) (hg:PG X tg (I_ C g)) (hs:swapsWithSole [tg] e pos.line X.env=pure false:=by rfl) (Z:swappedStores [tg] e X.env=pure none:=by rfl)
  (h1:(assignEach [tg] X.env).map (·.2)=[assign tg X.env]:=by rfl):PS X (.Assign [tg] e pos) (iU C (W8 ta g)):=
 QS.mk (Dn he hg hs Z h1) λp σ F H E U ht=>up1 U ht λe1 p1 v1 F1 H1 B O sh D n=>by
  obtain ⟨x,Y,q⟩:=n
  subst Y
  exact ⟨p1,F1,x,_,B,D,q,λI H2 n=>by obtain ⟨p2,F2,z,J,q2⟩:=n;exact ⟨p2,F2,z,O.trans J,q2⟩⟩
structure JQ (K:PySem.W.Frag) (J:It) (n:Nat) (item:Nat->D) (F1:Hp):Prop where
 go:∀i F H,aP F H->aP F1 F->i<n->J.go i H
 Ug:∀i F H x H',aP F H->aP F1 F->i<n->J.Ug i H x H'->(H'=H/\Rep K F (item i) x)\/∃t xs vs,H t=none/\H'=upd H t (.tup vs)/\x=.ref t/\item i=.tup xs/\aN K F xs vs
 stop:∀F H,aP F H->aP F1 F->J.stop n H
theorem JQ.out {J:It} {item:Nat->D} (I:JQ C.K J n item F1) (rs:RS C p σ F H) (s:aP F1 F) (hi:i<n) (y:J.Ug i H x H'):∃z,RS C p σ z H'/\aP F z/\Rep C.K z (item i) x:=by
 rcases I.Ug i F H x H' rs.sub s hi y with ⟨rfl,r⟩|⟨t,xs,vs,h1,h2,h3,h4,O⟩
 ·exact ⟨F,rs,.refl _,r⟩
 ·obtain ⟨B,Y,U⟩:=rs.free h1
  subst h2 h3
  rw [h4]
  exact ⟨_,rs.put h1,bY B _,.tup aL (O.mono (bY B _))⟩
abbrev uP:=aO->(Nat->(Nat->D)->aO->Prop)->Prop
def XI (C:Pc) (p:aO) (B:St) (F:Hp) (R:Nat->(Nat->D)->aO->Prop) (J:It) (I:Hp):Prop:=∃n item p1 z,RS C p1 B z I/\aP F z/\jM p p1/\JQ C.K J n item z/\R n item p1
def vh (C:Pc) (t:uP):TI:=λσ H Q=>∃p F R,RS C p σ F H/\t p R/\∀J H1,XI C p σ F R J H1->Q J H1
theorem QI.mk {t:TI} (h:PI X tg iter t) (hi:∀p σ F H R,RS C p σ F H->t' p R->t σ H (XI C p σ F R)):PI X tg iter (vh C t'):=λpins s σ H Q I n=>by
 obtain ⟨p,F,R,rs,ht,hq⟩:=n
 exact bu (h pins s σ H _ I (hi p σ F H R rs ht)) λ_ _ h1=>bu h1 λ_ _ n=>by obtain ⟨it,fp,Z,J,H',Y,U,O,D,B,z⟩:=n;exact ⟨it,fp,Z,J,H',Y,U,O,D,B,hq J H' z⟩
theorem El {lo d:Int} {n:Nat} {z:Nat->Int} (e:∀i:Nat,lo+i * d=z i):JQ K (Zb lo d n) n (λi=>.int (z i)) F:=⟨λi F H _ _ h=>h,λi F H x H' _ _ _ y=>by obtain ⟨h1,h2⟩:=y;subst h1 h2;rw [e];exact .inl ⟨rfl,.int _⟩,λ_ _ _ _=>zx _⟩
theorem getD_some {ds:List D} (h:i<ds.length):ds[i]? = some (ds.getD i .non):=by
 rw [zw,zg h];rfl
theorem W9 {ds:List D} (h:F x=some (.lst vs)) (r:aN K F ds vs):JQ K (Itl K x) ds.length (λi=>ds.getD i .non) F:=by
 have sq:∀{z H:Hp},aP z H->aP F z->iV K H x vs:=λn s=>.of (n _ _ (s _ _ h))
 refine ⟨λi z H n s hi=>?_,λi z H v H' n s hi y=>?_,λz H n s=>⟨vs,sq n s,by rw [r.length];exact zx _⟩⟩
 ·obtain ⟨v,e1,_⟩:=r.get (getD_some hi)
  exact ⟨vs,v,sq n s,e1⟩
 ·obtain ⟨e1,e2⟩:=y
  subst e1
  obtain ⟨w,e3,B⟩:=r.get (getD_some hi)
  have:=e2 vs (sq n s)
  rw [e3] at this;cases this
  exact .inl ⟨rfl,B.mono s⟩
variable {tg:Expr} {cI:TAQ} {ps ps2:Pos}
def W_ (n:TAQ):uP:=λp Q=>n p λes p1=>∃e j,es=[e]/\lk p1 e=.int j/\-(2 ^ 62)<=j/\j<2 ^ 62/\Q j.toNat (λi=>.int (0+i)) p1
theorem sY (Z:Gl X "range") (Y:X.mg "range"=none) (ha:PA X [a] (gJ C cI)) (U:starEach [a] X.env=[(false,eval a X.env)]:=by rfl):PI X tg (.Call (.Name "range" ps) [a] [] pos) (vh C (W_ cI)):=
 QI.mk (H_ Z Y ha U) λp σ F H R J O=>dR J O λes1 p1 D F1 H1 n I sh z B=>by
  obtain ⟨e1,j,h1,h2,h3,h4,q⟩:=B
  obtain ⟨v,rfl,er⟩:=qO z h1
  exact ⟨j,by rw [aY er h2],h3,h4,_,_,p1,F1,n,I,sh,El λ_=>by rw [Int.mul_one],q⟩
def Xa (n:TAQ):uP:=λp Q=>n p λes p1=>∃e f i j,es=[e,f]/\lk p1 e=.int i/\lk p1 f=.int j/\(-(2 ^ 62)<=i/\i<2 ^ 62/\-(2 ^ 62)<=j/\j<2 ^ 62)/\Q (j - i).toNat (λk=>.int (i+k)) p1
theorem sZ (hg:Gl X "range") (hm:X.mg "range"=none) (ha:PA X [a,b] (gJ C cI)) (Z:starEach [a,b] X.env=[(false,eval a X.env),(false,eval b X.env)]:=by rfl) (z:starEach [b] X.env=[(false,eval b X.env)]:=by rfl):PI X tg (.Call (.Name "range" ps) [a,b] [] pos) (vh C (Xa cI)):=
 QI.mk (Ia hg hm ha Z z) λp σ F H R U Y=>dR U Y λes1 p1 J F1 H1 n O sh B I=>by
  obtain ⟨e1,e2,i,j,h0,h1,h2,h3,q⟩:=I
  obtain ⟨v,w,rfl,er,D⟩:=uL B h0
  exact ⟨i,j,by rw [aY er h1,aY D h2],h3,_,_,p1,F1,n,O,sh,El λ_=>by rw [Int.mul_one],q⟩
def iqL (n:TQ):uP:=λp Q=>n p λe p1=>∃ds,e=.fz (.lst ds)/\Q ds.length (λi=>ds.getD i .non) p1
theorem gn (U:X.K=C.K) (O:PE X a (Up C ta)):PI X tg a (vh C (iqL ta)):=
 QI.mk (Kz U O) λp σ F H R I J=>up1 I J λe1 p1 v1 Y H1 n D sh z B=>by
  obtain ⟨ds,h1,q⟩:=B
  subst h1
  cases z with
  | lst q1 r1=>exact ⟨_,rfl,⟨_,.of (n.sub _ _ q1)⟩,_,_,p1,Y,n,D,sh,W9 q1 r1,q⟩
def Xb (ti:uP) (g:sX) (z:jH):jH:=λE p=>ti p λn item p1=>∃I:Nat->aO->Prop,I 0 p1/\(∀i p2,i<n->I i p2->g (item i) p2 λB=>z { E with nx:=I (i+1),ct:=I (i+1),bk:=E.nx } B)/\∀p2,I n p2->E.nx p2
theorem qF {z:Expr} {body:List Stmt} {ti:uP} {g:sX} {tb:jH} (hp:PassesOwn (model X.prog X.w) X.A X.env X.xe) (hc:X.calm=true) (hi:PI X tg z (vh C ti)) (hg:PG X tg (I_ C g)) (hb:gw X body (iU C tb))
  (hs:∀x,foldedSetIterable z X.env x=pure x:=by intro _;rfl):PS X (.For tg z body [] pos) (iU C (Xb ti g tb)):=
 QS.mk (J6 hp hc hi hg hb hs) λp σ F H E rs ht=>⟨p,F,_,rs,ht,λJ H1 B=>by
  obtain ⟨n,item,p1,F1,GK,s1,Ql,jq,I,i0,Z,Em⟩:=B
  refine ⟨λi m σ H=>m=n - i/\i<=n/\∃p F,RS C p σ F H/\aP F1 F/\I i p,⟨n,by simp,yu _,p1,F1,GK,.refl _,i0⟩,?_⟩
  rintro i m σ2 H2 ⟨rfl,hi,p2,F2,O,s2,i2⟩
  by_cases U:i<n
  ·refine .inr ⟨jq.go i F2 H2 O.sub s2 U,λσ' H'=>∃p F,RS C p σ' F H'/\aP F1 F/\I (i+1) p,λσ' H' h=>⟨n - (i+1),by omega,rfl,U,h⟩,λx H' y=>?_⟩
   obtain ⟨F3,JH,s3,r3⟩:=jq.out O s2 U y
   refine ⟨p2,F3,item i,_,JH,r3,Z i p2 U i2,λσ4 H4 ⟨p4,F4,RJ,s4,q4⟩=>⟨p4,F4,_,RJ,q4,?_⟩⟩
   have D:aP F1 F4:=s2.trans (s3.trans s4)
   exact ⟨λ_ _ B=>by obtain ⟨Y,F5,a,b,c⟩:=B;exact ⟨Y,F5,a,D.trans b,c⟩,λ_ _ B=>by obtain ⟨r,Y,σ5,F5,a,b,c⟩:=B;exact ⟨r,Y,σ5,F5,a,s1.trans (D.trans b),c⟩,λ_ _ B=>by obtain ⟨Y,F5,a,b,c⟩:=B;exact ⟨Y,F5,a,s1.trans (D.trans b),c⟩,λ_ _ B=>by obtain ⟨Y,F5,a,b,c⟩:=B;exact ⟨Y,F5,a,D.trans b,c⟩⟩
  ·have e:i=n:=by omega
   subst e
   exact .inl ⟨jq.stop F2 H2 O.sub s2,p2,F2,O,s1.trans s2,Em p2 i2⟩⟩
def Mi (c:m8) (z:jH):jH:=λE p=>∃(I:aO->Prop) (n:aO->Nat),I p/\∀p1,I p1->c p1 λb p2=>if b=true then z { E with nx:=λq=>I q/\n q<n p1,ct:=λq=>I q/\n q<n p1,bk:=E.nx } p2 else E.nx p2
theorem Mj {c:Expr} {tc:m8} {tb:jH} (hp:PassesOwn (model X.prog X.w) X.A X.env X.xe) (hc:PT X c (gf C tc)) (hb:gw X body (iU C tb)):PS X (.While c body [] pos) (iU C (Mi tc tb)):=
 QS.mk (Ay hp hc hb) λp σ F H E rs n=>by
  obtain ⟨I,μ,i0,step⟩:=n
  refine ⟨λm J H1=>∃p1 F1,RS C p1 J F1 H1/\aP F F1/\I p1/\m=μ p1,⟨_,p,F,rs,.refl _,i0,rfl⟩,?_⟩
  rintro m J H1 ⟨p1,F1,GK,s1,i1,rfl⟩
  refine qM GK (step p1 i1) λk p2 F2 H2 O s2 sh q=>?_
  refine dZ (λq=>?_) (λq=>?_) q
  ·refine ⟨λσ' H'=>∃U Y,RS C U σ' Y H'/\aP F Y/\I U/\μ U<μ p1,λσ' H' n=>by obtain ⟨U,Y,z1,z2,z3,z4⟩:=n;exact ⟨_,z4,U,Y,z1,z2,z3,rfl⟩,p2,F2,_,O,q,?_⟩
   have z:=s1.trans s2
   exact ⟨λ_ _ n=>by obtain ⟨B,D,a,b,c,d⟩:=n;exact ⟨B,D,a,z.trans b,c,d⟩,λ_ _ n=>by obtain ⟨r,B,Z,D,a,b,c⟩:=n;exact ⟨r,B,Z,D,a,z.trans b,c⟩,λ_ _ n=>by obtain ⟨B,D,a,b,c⟩:=n;exact ⟨B,D,a,z.trans b,c⟩,λ_ _ n=>by obtain ⟨B,D,a,b,c,d⟩:=n;exact ⟨B,D,a,z.trans b,c,d⟩⟩
  ·exact ⟨p2,F2,O,s1.trans s2,q⟩
end
abbrev fK:=List Sl->(Rt->List Sl->Prop)->Prop
def adA (K:PySem.W.Frag) (F H:Hp):Sl->V->Prop
 | .d x,v=>Rep K F x v
 | .own _,_=>False
 | .bor xs,v=>∃a vs,v=.ref a/\F a=none/\H a=some (.lst vs)/\aN K F xs vs
structure BP (K:PySem.W.Frag) (F H:Hp) (as:List Sl) (vs:List V):Prop where
 len:as.length=vs.length
 at_:∀(i:Nat) (s:Sl),as[i]? = some s->∃v,vs[i]? = some v/\adA K F H s v
 apart:∀(i j:Nat) (xs ys:List D) (a:Addr),i≠j->as[i]? = some (.bor xs)->as[j]? = some (.bor ys)->vs[i]? = some (.ref a)->vs[j]? = some (.ref a)->False
structure Post (K:PySem.W.Frag) (F H:Hp) (as:List Sl) (vs:List V) (r:Rt) (as':List Sl) (v:V) (F' H':Hp):Prop where
 ext:aP F F'
 sub:aP F' H'
 new:∀a o,F' a=some o->F a=some o\/H a=none\/∃xs,o=.tup xs
 keep:∀a o,H a=some o->(∀(i:Nat) (xs:List D),as[i]? = some (.bor xs)->vs[i]?≠some (.ref a))->H' a=some o
 grow:∀a,H a≠none->H' a≠none
 args:∀(i:Nat) (xs:List D),as[i]? = some (.bor xs)->∃ys a us,as'[i]? = some (.bor ys)/\vs[i]? = some (.ref a)/\F' a=none/\H' a=some (.lst us)/\aN K F' ys us
 res:match r with
  | .rd x=>Rep K F' x v
  | .ro xs=>∃a us,v=.ref a/\F' a=none/\H a=none/\H' a=some (.lst us)/\aN K F' xs us
abbrev JK:=Hp->fK
def Zh (K:PySem.W.Frag) (S:JK):Sp:=λvs H Q _=>∃as F R,aP F H/\BP K F H as vs/\S H as R/\∀r n v z H',Post K F H as vs r n v z H'->R r n->Q v H'
def Jb (K:PySem.W.Frag) (S:fK):Sp:=λvs H Q _=>∃as F R,aP F H/\BP K F H as vs/\S as R/\∀r n v z H',Post K F H as vs r n v z H'->R r n->Q v H'
def jP (p:aO):Ev->Option Sl
 | .fz x=>some (.d x)
 | .ow i=>match fO p i with
  | some xs=>some (.bor xs)
  | none=>none
def d_ (p:aO):List Ev->Option (List Sl)
 | []=>some []
 | e::r=>match jP p e,d_ p r with
  | some s,some ss=>some (s::ss)
  | _,_=>none
def fP:List Ev->List Nat
 | []=>[]
 | .fz _::r=>fP r
 | .ow i::r=>i::fP r
def back:aO->List Ev->List Sl->aO
 | p,.ow i::es,.bor ys::as=>back (putL p i ys) es as
 | p,_::es,_::as=>back p es as
 | p,_,_=>p
theorem lY {p:aO}:∀{es:List Ev} {as:List Sl},d_ p es=some as->as.length=es.length/\∀(i:Nat) (e:Ev),es[i]? = some e->∃s,as[i]? = some s/\jP p e=some s
 | [],as,h=>by cases h;exact ⟨rfl,λi e z=>by simp at z⟩
 | e::r,as,h=>by
  unfold d_ at h
  cases h1:jP p e with
  | none=>rw [h1] at h;cases h
  | some s=>
   cases h2:d_ p r with
   | none=>rw [h1,h2] at h;cases h
   | some ss=>
    rw [h1,h2] at h;cases h
    obtain ⟨l,g⟩:=lY h2
    refine ⟨by simp [l],λi n z=>?_⟩
    cases i with
    | zero=>simp at z;subst z;exact ⟨s,by simp,h1⟩
    | succ i=>exact (by simpa using g i n (by simpa using z))
theorem BR {k:Nat}:(putL p i ys)[k]? = (if k=i then (match p[k]? with|some (some s)=>some (some (s.put ys))|o=>o) else p[k]?):=by
 unfold putL
 by_cases n:k=i
 ·subst n
  rw [zo rfl]
  cases h:p[k]? with
  | none=>simp [h]
  | some o=>
   cases o with
   | none=>simp [h]
   | some s=>
    have z:k<p.length:=(zp.mp h).1
    simp only []
    rw [zF z]
 ·rw [zh n]
  split
  ·rw [zi (Ne.symm n)]
  ·rfl
theorem Ml {p:aO}:(putL p i ys).length=p.length:=by
 unfold putL
 split
 ·exact zR
 ·rfl
theorem iZ:∀{es:List Ev} {as:List Sl} {p:aO},(back p es as).length=p.length
 | [],_,_=>by unfold back;rfl
 | .fz x::es,[],p=>by unfold back;rfl
 | .ow i::es,[],p=>by unfold back;rfl
 | .fz x::es,a::as,p=>by unfold back;exact iZ
 | .ow i::es,.bor ys::as,p=>by unfold back;rw [iZ,Ml]
 | .ow i::es,.d y::as,p=>by unfold back;exact iZ
 | .ow i::es,.own y::as,p=>by unfold back;exact iZ
theorem jQ:∀{es:List Ev} {k:Nat} {m:Nat},es[m]? = some (.ow k)->k∈fP es
 | [],k,m,h=>by simp at h
 | .fz x::r,k,m,h=>by
  unfold fP
  cases m with
  | zero=>simp at h
  | succ m=>exact jQ (m:=m) (by simpa using h)
 | .ow i::r,k,m,h=>by
  unfold fP
  cases m with
  | zero=>simp at h;subst h;exact zt
  | succ m=>exact zn _ (jQ (m:=m) (by simpa using h))
theorem gj:∀{es:List Ev} {as:List Sl} {p:aO} {k:Nat},(fP es).Nodup->
  (∃(m:Nat) (ys:List D) (s:Sl),es[m]? = some (.ow k)/\as[m]? = some (.bor ys)/\p[k]? = some (some s)/\(back p es as)[k]? = some (some (s.put ys))) \/
  ((∀(m:Nat) (ys:List D) (s:Sl),es[m]? = some (.ow k)->as[m]? = some (.bor ys)->p[k]? = some (some s)->False)/\(back p es as)[k]? = p[k]?)
 | [],as,p,k,_=>.inr ⟨λm ys s h=>by simp at h,by unfold back;rfl⟩
 | .fz x::es,[],p,k,_=>.inr ⟨λm ys s _ h=>by simp at h,by unfold back;rfl⟩
 | .ow i::es,[],p,k,_=>.inr ⟨λm ys s _ h=>by simp at h,by unfold back;rfl⟩
 | .fz x::es,a::as,p,k,nd=>by
  have e:back p (.fz x::es) (a::as)=back p es as:=by conv=>lhs;unfold back
  rw [e]
  rcases gj (es:=es) (as:=as) (p:=p) (k:=k) nd with ⟨m,ys,s,h1,h2,h3,h4⟩|⟨h1,h2⟩
  ·exact .inl ⟨m+1,ys,s,by simpa using h1,by simpa using h2,h3,h4⟩
  ·refine .inr ⟨λm ys s n z J=>?_,h2⟩
   cases m with
   | zero=>simp at n
   | succ m=>exact h1 m ys s (by simpa using n) (by simpa using z) J
 | .ow i::es,.d y::as,p,k,nd=>by
  have e:back p (.ow i::es) (.d y::as)=back p es as:=by conv=>lhs;unfold back
  rw [e]
  have I:(fP es).Nodup:=by unfold fP at nd;exact (yh.mp nd).2
  rcases gj (es:=es) (as:=as) (p:=p) (k:=k) I with ⟨m,ys,s,h1,h2,h3,h4⟩|⟨h1,h2⟩
  ·exact .inl ⟨m+1,ys,s,by simpa using h1,by simpa using h2,h3,h4⟩
  ·refine .inr ⟨λm ys s n z J=>?_,h2⟩
   cases m with
   | zero=>simp at z
   | succ m=>exact h1 m ys s (by simpa using n) (by simpa using z) J
 | .ow i::es,.own y::as,p,k,nd=>by
  have e:back p (.ow i::es) (.own y::as)=back p es as:=by conv=>lhs;unfold back
  rw [e]
  have I:(fP es).Nodup:=by unfold fP at nd;exact (yh.mp nd).2
  rcases gj (es:=es) (as:=as) (p:=p) (k:=k) I with ⟨m,ys,s,h1,h2,h3,h4⟩|⟨h1,h2⟩
  ·exact .inl ⟨m+1,ys,s,by simpa using h1,by simpa using h2,h3,h4⟩
  ·refine .inr ⟨λm ys s n z J=>?_,h2⟩
   cases m with
   | zero=>simp at z
   | succ m=>exact h1 m ys s (by simpa using n) (by simpa using z) J
 | .ow i::es,.bor zs::as,p,k,nd=>by
  have e:back p (.ow i::es) (.bor zs::as)=back (putL p i zs) es as:=by conv=>lhs;unfold back
  rw [e]
  have B:i ∉ fP es/\(fP es).Nodup:=by unfold fP at nd;exact yh.mp nd
  by_cases O:k=i
  ·subst O
   rcases gj (es:=es) (as:=as) (p:=putL p k zs) (k:=k) B.2 with ⟨m,ys,s,h1,_⟩|⟨h1,h2⟩
   ·exact absurd (jQ h1) B.1
   ·rw [h2,BR,zo rfl]
    cases h:p[k]? with
    | none=>exact .inr ⟨λm ys s _ _ g=>(by cases g),rfl⟩
    | some o=>
     cases o with
     | none=>exact .inr ⟨λm ys s _ _ g=>(by cases g),rfl⟩
     | some s=>exact .inl ⟨0,zs,s,by simp,by simp,rfl,rfl⟩
  ·have U:(putL p i zs)[k]? = p[k]?:=by rw [BR,zh O]
   rcases gj (es:=es) (as:=as) (p:=putL p i zs) (k:=k) B.2 with ⟨m,ys,s,h1,h2,h3,h4⟩|⟨h1,h2⟩
   ·exact .inl ⟨m+1,ys,s,by simpa using h1,by simpa using h2,by rw [<-U];exact h3,h4⟩
   ·refine .inr ⟨λm ys s n z J=>?_,by rw [h2,U]⟩
    cases m with
    | zero=>simp at n;exact O n.symm
    | succ m=>exact h1 m ys s (by simpa using n) (by simpa using z) (by rw [U];exact J)
theorem rD {K:PySem.W.Frag} {p:aO} {n:St} {F:Hp}:∀{es:List Ev} {vs:List V},pG K p n F es vs->es.length=vs.length/\∀(i:Nat) (e:Ev),es[i]? = some e->∃v,vs[i]? = some v/\lA K p n F e v
 | _,_,.nil=>⟨rfl,λi e z=>by simp at z⟩
 | _,_,.cons h t=>by
  obtain ⟨l,g⟩:=rD t
  refine ⟨by simp [l],λi B z=>?_⟩
  cases i with
  | zero=>simp at z;subst z;exact ⟨_,by simp,h⟩
  | succ i=>exact (by simpa using g i B (by simpa using z))
section
variable {X:Cx} {C:Pc} {a b c e:Expr} {ta tb tc:TQ} {pos:Pos} {K:PySem.W.Frag} {p:aO} {σ:St} {F H:Hp} {st:Stmt} {es:List Expr} {cI:TAQ}
theorem iu {es:List Ev} {vs:List V} {as:List Sl} (rs:RS C p σ F H) (er:pG C.K p σ F es vs) (ha:d_ p es=some as) (nd:(fP es).Nodup):BP C.K F H as vs /\
  ∀(m:Nat) (xs:List D),as[m]? = some (.bor xs)->∃(k:Nat) (s:Sl) (a:Addr),es[m]? = some (.ow k)/\p[k]? = some (some s)/\s.mu=true/\σ[k]? = some (some (.ref a))/\vs[m]? = some (.ref a):=by
 obtain ⟨l1,g1⟩:=lY ha
 obtain ⟨l2,g2⟩:=rD er
 have J:∀(m:Nat) (xs:List D),as[m]? = some (.bor xs)->∃(k:Nat) (s:Sl) (a:Addr) (vs':List V),es[m]? = some (.ow k)/\p[k]? = some (some s)/\s.mu=true/\σ[k]? = some (some (.ref a))/\vs[m]? = some (.ref a)/\F a=none/\H a=some (.lst vs')/\aN C.K F xs vs':=λm xs h=>by
  have hm:m<es.length:=by rw [<-l1];exact (zp.mp h).1
  obtain ⟨s0,e1,e2⟩:=g1 m _ (zg hm)
  rw [h] at e1;cases e1
  cases B:es[m] with
  | fz x=>rw [B] at e2;cases e2
  | ow k=>
   rw [B] at e2
   have hmut:fO p k=some xs:=by
    unfold jP at e2
    cases O:fO p k with
    | none=>simp [O] at e2
    | some ys=>simp [O] at e2;rw [e2]
   obtain ⟨s,a,vs',h1,h2,h3,h4,h5,h6⟩:=jN rs hmut
   obtain ⟨v,e3,I⟩:=g2 m _ (zg hm)
   rw [B] at I
   have:=I.2
   rw [h3] at this;cases this
   have fa:F a=none:=by
    obtain ⟨w,Y,U⟩:=rs.sl k s h1
    rw [h3] at Y;cases Y
    cases s with
    | d x=>cases h2
    | own xs=>obtain ⟨_,_,z,y,_⟩:=U;cases z;exact y
    | bor xs=>obtain ⟨_,_,z,y,_⟩:=U;cases z;exact y
   exact ⟨k,s,a,vs',by rw [zg hm,B],h1,h2,h3,e3,fa,h4,h5⟩
 refine ⟨⟨by rw [l1,l2],λi s h=>?_,λi j xs ys x hij h1 h2 h3 h4=>?_⟩,λm xs h=>?_⟩
 ·have hm:i<es.length:=by rw [<-l1];exact (zp.mp h).1
  obtain ⟨s0,e1,e2⟩:=g1 i _ (zg hm)
  rw [h] at e1;cases e1
  obtain ⟨v,e3,I⟩:=g2 i _ (zg hm)
  cases s with
  | d x=>
   refine ⟨v,e3,?_⟩
   cases B:es[i] with
   | fz y=>rw [B] at e2;rw [B] at I;cases e2;exact I
   | ow k=>
    rw [B] at e2
    unfold jP at e2
    cases O:fO p k with
    | none=>simp [O] at e2
    | some ys=>simp [O] at e2
  | own xs=>
   cases B:es[i] with
   | fz y=>simp [B,jP] at e2
   | ow k=>
    rw [B] at e2
    unfold jP at e2
    cases O:fO p k with
    | none=>simp [O] at e2
    | some ys=>simp [O] at e2
  | bor xs=>
   obtain ⟨k,s,x,vs',Y,U,z3,z4,Z,z6,z7,z8⟩:=J i xs h
   exact ⟨_,Z,x,vs',rfl,z6,z7,z8⟩
 ·obtain ⟨k,s,x1,vs',Y,U,z3,z4,Z,z6,z7,z8⟩:=J i xs h1
  obtain ⟨k',s',x2,vs'',y1,y2,y3,y4,y5,y6,y7,y8⟩:=J j ys h2
  rw [h3] at Z;cases Z
  rw [h4] at y5;cases y5
  by_cases hk:k=k'
  ·subst hk
   -- the same slot twice
   have n:∀{l:List Ev} {i j k:Nat},(fP l).Nodup->l[i]? = some (.ow k)->l[j]? = some (.ow k)->i=j:=by
    intro l
    induction l with
    | nil=>intro i j k _ h;simp at h
    | cons e r ih=>
     intro i j k nd h h'
     cases e with
     | fz x=>
      cases i with
      | zero=>simp at h
      | succ i=>
       cases j with
       | zero=>simp at h'
       | succ j=>exact yd _ (ih (i:=i) (j:=j) (k:=k) (by unfold fP at nd;exact nd) (by simpa using h) (by simpa using h'))
     | ow q=>
      unfold fP at nd
      obtain ⟨n1,n2⟩:=yh.mp nd
      cases i with
      | zero=>
       simp at h;subst h
       cases j with
       | zero=>rfl
       | succ j=>exact absurd (jQ (m:=j) (by simpa using h')) n1
      | succ i=>
       cases j with
       | zero=>simp at h';subst h';exact absurd (jQ (m:=i) (by simpa using h)) n1
       | succ j=>exact yd _ (ih (i:=i) (j:=j) (k:=k) n2 (by simpa using h) (by simpa using h'))
   exact hij (n nd Y y1)
  ·exact rs.apart k k' s s' x hk U z3 y2 y3 z4 y4
 ·obtain ⟨k,s,x,vs',Y,U,z3,z4,Z,z6,z7,z8⟩:=J m xs h
  exact ⟨k,s,x,Y,U,z3,z4,Z⟩
theorem RS.call {es:List Ev} {vs:List V} {as D:List Sl} {r:Rt} {v:V} {F' H':Hp} (rs:RS C p σ F H) (er:pG C.K p σ F es vs) (ha:d_ p es=some as) (nd:(fP es).Nodup) (po:Post C.K F H as vs r D v F' H') :
  RS C (back p es D) σ F' H'/\jM p (back p es D)/\Li C (back p es D) σ F' H' r v:=by
 obtain ⟨ar,Y⟩:=iu rs er ha nd
 obtain ⟨l1,g1⟩:=lY ha
 obtain ⟨l2,g2⟩:=rD er
 -- an address of ours that is Y is the adB
 have kept:∀(k:Nat) (s:Sl) (x:Addr) (o:HO),p[k]? = some (some s)->s.mu=true->σ[k]? = some (some (.ref x))->H x=some o->(∀m:Nat,es[m]?≠some (.ow k))->H' x=some o:=λk s x o h1 h2 h3 h4 h5=>by
  refine po.keep x o h4 λi xs I O=>?_
  obtain ⟨k',s',x',y1,y2,Z,y4,y5⟩:=Y i xs I
  rw [O] at y5;cases y5
  by_cases hk:k=k'
  ·subst hk;exact h5 i y1
  ·exact rs.apart k k' s s' x hk h1 h2 y2 Z h3 y4
 have U:∀x B,F x=none->H x≠none->H' x=some (.lst B)->F' x=none:=λx B h1 h2 h3=>by
  cases q:F' x with
  | none=>rfl
  | some o=>
   rcases po.new x o q with z|z|⟨ys,z⟩
   ·rw [h1] at z;cases z
   ·exact absurd z h2
   ·subst z
    have:=po.sub x _ q
    rw [h3] at this;cases this
 have slot:∀(k:Nat) (s:Sl),(back p es D)[k]? = some (some s)->∃J,p[k]? = some (some J)/\s.mu=J.mu/\(∀xs,J=.own xs->∃ys,s=.own ys)/\(∀xs,J=.bor xs->∃ys,s=.bor ys)/\(J.mu=false->s=J) /\
   (s.mu=true->∃x B ys,σ[k]? = some (some (.ref x))/\F' x=none/\H' x=some (.lst B)/\aN C.K F' ys B/\(s=.own ys\/s=.bor ys)):=λk s h=>by
  rcases gj (es:=es) (as:=D) (p:=p) (k:=k) nd with ⟨m,ys,J,h1,h2,h3,h4⟩|⟨h1,h2⟩
  ·rw [h4] at h;cases h
   obtain ⟨s1,q1,q2⟩:=g1 m _ h1
   have q3:∃xs,s1=.bor xs:=by
    unfold jP at q2
    cases hq:fO p k with
    | none=>simp [hq] at q2
    | some zs=>simp [hq] at q2;exact ⟨zs,q2.symm⟩
   obtain ⟨xs,rfl⟩:=q3
   obtain ⟨ys',x,B,a1,a2,a3,a4,a5⟩:=po.args m xs q1
   rw [h2] at a1;cases a1
   obtain ⟨k',s',x',y1,y2,Z,y4,y5⟩:=Y m xs q1
   rw [h1] at y1;cases y1
   rw [h3] at y2;cases y2
   rw [a2] at y5;cases y5
   refine ⟨J,h3,?_,λxs z=>⟨ys,by subst z;rfl⟩,λxs z=>⟨ys,by subst z;rfl⟩,λz=>?_,λ_=>⟨x,B,ys,y4,a3,a4,a5,?_⟩⟩
   ·cases J<;>rfl
   ·rw [Z] at z;cases z
   ·cases J with
    | d x=>cases Z
    | own xs=>exact .inl rfl
    | bor xs=>exact .inr rfl
  ·rw [h2] at h
   refine ⟨s,h,rfl,λxs z=>⟨xs,z⟩,λxs z=>⟨xs,z⟩,λ_=>rfl,λhm=>?_⟩
   obtain ⟨w,I,O⟩:=rs.sl k s h
   have nl:∀m:Nat,es[m]?≠some (.ow k):=λm hm'=>by
    obtain ⟨s1,q1,q2⟩:=g1 m _ hm'
    have q3:∃xs,s1=.bor xs:=by
     unfold jP at q2
     cases hq:fO p k with
     | none=>simp [hq] at q2
     | some zs=>simp [hq] at q2;exact ⟨zs,q2.symm⟩
    obtain ⟨xs,rfl⟩:=q3
    obtain ⟨ys',x,B,a1,a2,a3,a4,a5⟩:=po.args m xs q1
    exact h1 m ys' s hm' a1 h
   cases s with
   | d x=>cases hm
   | own xs=>
    obtain ⟨x,B,rfl,y1,y2,Z,y4⟩:=O
    have hH:=kept k _ x _ h rfl I Z nl
    exact ⟨x,B,xs,I,U x B y1 (by rw [Z];intro z;cases z) hH,hH,y4.mono po.ext,.inl rfl⟩
   | bor xs=>
    obtain ⟨x,B,rfl,y1,y2,Z,y4⟩:=O
    have hH:=kept k _ x _ h rfl I Z nl
    exact ⟨x,B,xs,I,U x B y1 (by rw [Z];intro z;cases z) hH,hH,y4.mono po.ext,.inr rfl⟩
 have rs':RS C (back p es D) σ F' H':=by
  refine ⟨po.sub,rs.ext.trans po.ext,λx o q=>?_,λx o q n=>?_,λx n=>po.grow x (rs.grow x n),by rw [iZ];exact rs.len,λk s h=>?_,λi j s s' x hij e1 m1 e2 m2 x1 x2=>?_,λq hq=>?_⟩
  ·rcases po.new x o q with z|z|z
   ·exact rs.new x o z
   ·exact .inr (.inl (rs.free z).2.1)
   ·exact .inr (.inr z)
  ·refine po.keep x o (rs.keep x o q n) λi xs I O=>?_
   obtain ⟨k',s',x',y1,y2,Z,y4,y5⟩:=Y i xs I
   rw [O] at y5;cases y5
   obtain ⟨w,w1,w2⟩:=rs.sl k' s' y2
   rw [y4] at w1;cases w1
   cases s' with
   | d x=>cases Z
   | own xs=>obtain ⟨_,_,z,_,y,_⟩:=w2;cases z;rw [y] at q;cases q
   | bor xs=>obtain ⟨_,_,z,_,⟨q',hq',y⟩,_⟩:=w2;cases z;exact n q' hq' y
  ·obtain ⟨J,h0,hm,ho,hb,hd,hl⟩:=slot k s h
   obtain ⟨w,w1,w2⟩:=rs.sl k J h0
   refine ⟨w,w1,?_⟩
   cases J with
   | d x=>rw [hd rfl];exact Rep.mono po.ext w2
   | own xs=>
    obtain ⟨ys,rfl⟩:=ho xs rfl
    obtain ⟨x,B,ys',I,O,z3,z4,z5⟩:=hl rfl
    rw [w1] at I;cases I
    obtain ⟨_,_,z,_,y,_⟩:=w2;cases z
    rcases z5 with z5|z5<;>cases z5
    exact ⟨x,B,rfl,O,y,z3,z4⟩
   | bor xs=>
    obtain ⟨ys,rfl⟩:=hb xs rfl
    obtain ⟨x,B,ys',I,O,z3,z4,z5⟩:=hl rfl
    rw [w1] at I;cases I
    obtain ⟨_,_,z,_,y,_⟩:=w2;cases z
    rcases z5 with z5|z5<;>cases z5
    exact ⟨x,B,rfl,O,y,z3,z4⟩
  ·obtain ⟨s1,h1,hm1,_⟩:=slot i s e1
   obtain ⟨s2,h2,hm2,_⟩:=slot j s' e2
   exact rs.apart i j s1 s2 x hij h1 (by rw [<-hm1];exact m1) h2 (by rw [<-hm2];exact m2) x1 x2
  ·obtain ⟨I,xs,O⟩:=rs.pin q hq
   refine ⟨I,?_⟩
   rcases gj (es:=es) (as:=D) (p:=p) (k:=q.1) nd with ⟨m,ys,J,h1,h2,h3,h4⟩|⟨h1,h2⟩
   ·rw [O] at h3;cases h3
    exact ⟨ys,h4⟩
   ·exact ⟨xs,by rw [h2];exact O⟩
 refine ⟨rs',⟨iZ,λk s h m=>?_⟩,?_⟩
 ·rcases gj (es:=es) (as:=D) (p:=p) (k:=k) nd with ⟨m',ys,J,h1,h2,h3,h4⟩|⟨h1,h2⟩
  ·rw [h] at h3;cases h3
   exact ⟨_,h4,by cases s<;>first|rfl|cases m⟩
  ·exact ⟨s,by rw [h2];exact h,m⟩
 ·have res:=po.res
  cases r with
  | rd x=>exact res
  | ro xs=>
   obtain ⟨x,B,I,O,z3,z4,z5⟩:=res
   refine ⟨x,B,I,O,(rs.free z3).2.1,z4,z5,λk s h m z=>?_⟩
   obtain ⟨J,h0,hm,_⟩:=slot k s h
   exact (rs.free z3).2.2 k J h0 (by rw [<-hm];exact m) z
def Mm (S:fK) (t:TAQ):TN:=λp Q=>t p λes p1=>∃as,d_ p1 es=some as/\(fP es).Nodup/\S as λr n=>Q r (back p1 es n)
theorem aj {x:Str} {st:Stmt} {ps:List Str} {k:Nat} {S:fK} {p0:Pos} (hK:X.K=C.K) (D:aM X.K X.mg x st ps) (G:bV X.prog X.w X.K X.mg X.base m7 k D.f D.fd ps (Jb X.K S)) (hr:bO k X.A) (ha:PA X (e::es) (gJ C cI))
  (hg:Gl X x:=by rfl) (J:(x == ("__debug__":Str))=false:=by decide) (he:starEach (e::es) X.env=(false,eval e X.env)::starEach es X.env:=by rfl) (hpl:(backTo pos (starEach es X.env)).any (·.1)=false:=by rfl) :
  PE X (.Call (.Name x p0) (e::es) [] pos) (m9 C (Mm S cI)):=
 QN.mk (sH D G hr ha hg J he hpl) λp σ F H R Z ht=>dR Z ht λes1 p1 U F1 H1 n Y sh z O=>by
  obtain ⟨as,h1,nd,q⟩:=O
  rw [zX,hK]
  refine ⟨as,F1,_,n.sub,(iu n z h1 nd).1,q,λr as' v F' H' po hq=>?_⟩
  obtain ⟨I,B,rr⟩:=n.call z h1 nd po
  exact ⟨r,_,F',I,Y.trans po.ext,sh.trans B,rr,hq⟩
def outs:List Sl->aO->List Sl
 | [],_=>[]
 | .bor _::r,some s::p=>s::outs r p
 | s::r,_::p=>s::outs r p
 | s::r,[]=>s::r
theorem jR:∀{as:List Sl} {p:aO} {i:Nat} {xs:List D} {s:Sl},as[i]? = some (.bor xs)->p[i]? = some (some s)->(outs as p)[i]? = some s
 | [],p,i,xs,s,h,_=>by simp at h
 | a::as,[],i,xs,s,_,h=>by simp at h
 | .bor ys::as,o::p,0,xs,s,h,h'=>by
  simp at h';subst h';unfold outs;simp
 | .d y::as,o::p,0,xs,s,h,h'=>by simp at h
 | .own y::as,o::p,0,xs,s,h,h'=>by simp at h
 | .bor ys::as,none::p,i+1,xs,s,h,h'=>by
  unfold outs;simpa using jR (as:=as) (p:=p) (i:=i) (xs:=xs) (s:=s) (by simpa using h) (by simpa using h')
 | .bor ys::as,some q::p,i+1,xs,s,h,h'=>by
  unfold outs;simpa using jR (as:=as) (p:=p) (i:=i) (xs:=xs) (s:=s) (by simpa using h) (by simpa using h')
 | .d ys::as,o::p,i+1,xs,s,h,h'=>by
  unfold outs;simpa using jR (as:=as) (p:=p) (i:=i) (xs:=xs) (s:=s) (by simpa using h) (by simpa using h')
 | .own ys::as,o::p,i+1,xs,s,h,h'=>by
  unfold outs;simpa using jR (as:=as) (p:=p) (i:=i) (xs:=xs) (s:=s) (by simpa using h) (by simpa using h')
def cL:Nat->List Sl->List V->List (Nat × Addr)
 | n,.bor _::as,.ref a::vs=>(n,a)::cL (n+1) as vs
 | n,_::as,_::vs=>cL (n+1) as vs
 | _,_,_=>[]
theorem tu:∀{as:List Sl} {vs:List V} {n:Nat} {q:Nat × Addr},q∈cL n as vs->∃(m:Nat) (xs:List D),q.1=n+m/\as[m]? = some (.bor xs)/\vs[m]? = some (.ref q.2)
 | [],vs,n,q,h=>by unfold cL at h;simp at h
 | a::as,[],n,q,h=>by cases a<;>(unfold cL at h;simp at h)
 | a::as,v::vs,n,q,h=>by
  have step:q∈cL (n+1) as vs->∃(m:Nat) (xs:List D),q.1=n+m/\(a::as)[m]? = some (.bor xs)/\(v::vs)[m]? = some (.ref q.2):=λh=>by
   obtain ⟨m,xs,h1,h2,h3⟩:=tu h
   exact ⟨m+1,xs,by omega,by simpa using h2,by simpa using h3⟩
  cases a with
  | bor ys=>
   cases v with
   | ref x=>
    unfold cL at h
    rcases zm.mp h with h|h
    ·subst h;exact ⟨0,ys,by simp,by simp,by simp⟩
    ·exact step h
   | _=>exact step (by unfold cL at h;exact h)
  | d y=>exact step (by unfold cL at h;exact h)
  | own y=>exact step (by unfold cL at h;exact h)
theorem lZ:∀{as:List Sl} {vs:List V} {n m:Nat} {xs:List D} {x:Addr},as[m]? = some (.bor xs)->vs[m]? = some (.ref x)->(n+m,x)∈cL n as vs
 | [],vs,n,m,xs,x,h,_=>by simp at h
 | a::as,[],n,m,xs,x,_,h=>by simp at h
 | a::as,v::vs,n,0,xs,x,h,h'=>by
  simp at h h';subst h h';unfold cL;simp
 | a::as,v::vs,n,m+1,xs,x,h,h'=>by
  have z:=lZ (as:=as) (vs:=vs) (n:=n+1) (m:=m) (xs:=xs) (x:=x) (by simpa using h) (by simpa using h')
  have e:n+(m+1)=n+1+m:=by omega
  rw [e]
  cases a with
  | bor ys=>
   cases v with
   | ref y=>unfold cL;exact zn _ z
   | _=>unfold cL;exact z
  | d y=>unfold cL;exact z
  | own y=>unfold cL;exact z
def bT (N:List Str) (as:List Sl):aO:=as.map some++List.replicate (N.length - as.length) none
end
section
variable {P:Program} {w:World} {K:PySem.W.Frag} {mg:Str->Option Value} {base:Heap}
theorem uE.Xc {x O:Str} {st:Stmt} {f:Addr} {fd:FuncData} {N ps:List Str} {k:Nat} {S:JK} (Fn:uE K x O st f fd) (Sc:ao N ps (aa st)) (len:∀H as R,S H as R->as.length=ps.length)
  (hbody:∀(Y:Value) (A:Around) (outer:List Env) (s:Shared) (H:Hp) (E:XK) (C:Pc) (as:List Sl) (R:Rt->List Sl->Prop),K=C.K->C.H0=H->(∀q∈C.bs,∃xs,as[q.1]? = some (.bor xs))->bO k (A.deeper (envOfC O (aa st) s.heap.objs.size f Y))->S H as R->
   ∃t,gw (fM m7 P w K mg base N O (aa st) f Y A outer s H E).Ue (dG st) (iU C t)/\t { nx:=λp=>R (.rd .non) (outs as p),rt:=λr p=>R r (outs as p) } (bT N as)):bV P w K mg base m7 (k+1) f fd ps (Zh K S):=by
 refine Fn.ok Sc (λvs H Q E h=>?_) (λY A outer s H vs Q E hr h=>?_)
 ·obtain ⟨as,F,R,h1,h2,h3,h4⟩:=h
  rw [<-h2.len];exact len _ as R h3
 obtain ⟨as,F,R,sFH,ar,hS,U⟩:=h
 have bsm:∀q∈cL 0 as vs,∃xs,as[q.1]? = some (.bor xs)/\vs[q.1]? = some (.ref q.2):=λq U=>by
  obtain ⟨m,xs,h1,h2,h3⟩:=tu U
  rw [Nat.zero_add] at h1
  rw [h1]
  exact ⟨xs,h2,h3⟩
 have hb:=hbody Y A outer s H E ⟨K,F,H,cL 0 as vs⟩ as R rfl rfl (λq U=>let ⟨xs,e,_⟩:=bsm q U;⟨xs,e⟩) hr hS
 obtain ⟨t,ht,tq⟩:=hb
 have J:∀(i:Nat) (s:Sl),(bT N as)[i]? = some (some s)->as[i]? = some s:=λi s h=>by
  unfold bT at h
  by_cases hi:i<as.length
  ·rw [zJ (by simpa using hi)] at h
   simpa using h
  ·rw [zS (by simpa using xz hi),zQ] at h
   split at h<;>cases h
 have I:∀(i:Nat) (v:V),vs[i]? = some v->(start N vs)[i]? = some (some v):=λi v h=>by
  unfold start
  have hi:=(zp.mp h).1
  rw [zJ (by simpa using hi)]
  simpa using h
 have rs:RS ⟨K,F,H,cL 0 as vs⟩ (bT N as) (start N vs) F H:=by
  refine ⟨sFH,.refl _,λa o h=>.inl h,λa o h _=>h,λa h=>h,?_,λi s h=>?_,λi j s s' a hij e1 m1 e2 m2 x1 x2=>?_,λq U=>?_⟩
  ·unfold bT start
   rw [zj,zj,z9,z9,zD,zD,ar.len]
  ·obtain ⟨v,h1,h2⟩:=ar.at_ i s (J i s h)
   refine ⟨v,I i v h1,?_⟩
   cases s with
   | d x=>exact h2
   | own xs=>exact h2.elim
   | bor xs=>
    obtain ⟨a,us,rfl,z1,z2,z3⟩:=h2
    have mm:=lZ (n:=0) (J i _ h) h1
    exact ⟨a,us,rfl,z1,⟨_,mm,rfl⟩,z2,z3⟩
  ·have f1:=J i s e1
   have f2:=J j s' e2
   obtain ⟨v1,h1,k1⟩:=ar.at_ i s f1
   obtain ⟨v2,h2,k2⟩:=ar.at_ j s' f2
   rw [I i v1 h1] at x1;cases x1
   rw [I j v2 h2] at x2;cases x2
   cases s with
   | d x=>cases m1
   | own xs=>exact k1.elim
   | bor xs=>
    cases s' with
    | d x=>cases m2
    | own xs=>exact k2.elim
    | bor ys=>exact ar.apart i j xs ys a hij f1 f2 h1 h2
  ·obtain ⟨xs,h1,h2⟩:=bsm q U
   refine ⟨I _ _ h2,xs,?_⟩
   unfold bT
   have hi:=(zp.mp h1).1
   rw [zJ (by simpa using hi)]
   simpa using h1
 -- the end
 have fin:∀(r:Rt) (p1:aO) (D:St) (v:V) (Z H1:Hp),RS ⟨K,F,H,cL 0 as vs⟩ p1 D Z H1->Li ⟨K,F,H,cL 0 as vs⟩ p1 D Z H1 r v->R r (outs as p1)->Q v H1:=λr p1 D v Z H1 B rr q=>by
  refine U r _ v Z H1 ⟨B.ext,B.sub,B.new,λa o h n=>?_,B.grow,λi xs h=>?_,?_⟩ q
  ·refine B.keep a o h λq U z=>?_
   obtain ⟨xs,h1,h2⟩:=bsm q U
   exact n q.1 xs h1 (by rw [h2,z])
  ·obtain ⟨v,h1,k1⟩:=ar.at_ i _ h
   obtain ⟨a,us,rfl,z1,z2,z3⟩:=k1
   have mm:=lZ (n:=0) h h1
   obtain ⟨p1',ys,p2'⟩:=B.pin _ mm
   rw [Nat.zero_add] at p1' p2'
   obtain ⟨w,w1,b,us',e,y1,y2,y3,y4⟩:=B.sl i _ p2'
   rw [p1'] at w1;cases w1;cases e
   exact ⟨ys,a,us',jR h p2',h1,y1,y3,y4⟩
  ·cases r with
   | rd x=>exact rr
   | ro xs=>obtain ⟨a,us,z1,z2,z3,z4,z5,_⟩:=rr;exact ⟨a,us,z1,z2,z3,z4,z5⟩
 refine ⟨_,ht,bT N as,F,_,rs,tq,⟨λD H1 zq=>?_,λv H1 zq=>?_,λ_ _ ⟨_,_,_,_,z⟩=>z.elim,λ_ _ ⟨_,_,_,_,z⟩=>z.elim⟩⟩
 ·obtain ⟨p1,Z,B,s1,q⟩:=zq
  exact fin (.rd .non) p1 D .non Z H1 B .non q
 ·obtain ⟨r,p1,D,Z,B,s1,rr,q⟩:=zq
  exact fin r p1 D v Z H1 B rr q
theorem uE.gU {x n:Str} {st:Stmt} {f:Addr} {fd:FuncData} {N ps:List Str} {k:Nat} {S:fK} (U:uE K x n st f fd) (O:ao N ps (aa st)) (len:∀as R,S as R->as.length=ps.length)
  (B:∀(z:Value) (A:Around) (outer:List Env) (s:Shared) (H:Hp) (E:XK) (C:Pc) (as:List Sl) (R:Rt->List Sl->Prop),K=C.K->bO k (A.deeper (envOfC n (aa st) s.heap.objs.size f z))->S as R->
   ∃t,gw (fM m7 P w K mg base N n (aa st) f z A outer s H E).Ue (dG st) (iU C t)/\t { nx:=λp=>R (.rd .non) (outs as p),rt:=λr p=>R r (outs as p) } (bT N as)):bV P w K mg base m7 (k+1) f fd ps (Jb K S):=
 uE.Xc (S:=λ_=>S) U O (λ_=>len) λz A outer s H E C as R J _ _ D I=>B z A outer s H E C as R J D I
end
def Pc.sh (C:Pc) (k:Nat):Pc:=⟨C.K,C.F0,C.H0,C.bs.map λq=>(q.1+k,q.2)⟩
section
variable {X:Cx} {C:Pc} {a b c e:Expr} {ta tb tc:TQ} {pos:Pos} {K:PySem.W.Frag} {p:aO} {σ:St} {F H:Hp} {k:Nat}
theorem wK {α:Type} {l:List (Option α)} {i:Nat} {s:α} (h:(List.replicate k none++l)[i]? = some (some s)):∃j,i=k+j/\l[j]? = some (some s):=by
 by_cases hi:i<k
 ·rw [zJ (by simpa using hi),zQ,zo hi] at h
  cases h
 ·rw [zS (by simpa using xz hi),zD] at h
  exact ⟨i - k,by omega,h⟩
theorem tD {α:Type} {l:List (Option α)} {j:Nat}:(List.replicate k (none:Option α)++l)[k+j]? = l[j]?:=by
 rw [zS (by simp),zD,Nat.add_sub_cancel_left]
theorem Ut:Lh (C.sh k) F H s v ↔ Lh C F H s v:=by
 cases s with
 | d x=>exact Iff.rfl
 | own xs=>exact Iff.rfl
 | bor xs=>
  constructor
  ·rintro ⟨x,vs,h1,h2,⟨q,z,h3⟩,h4⟩
   obtain ⟨q',n,e⟩:=zV.mp z
   exact ⟨x,vs,h1,h2,⟨q',n,by rw [<-h3,<-e]⟩,h4⟩
  ·rintro ⟨x,vs,h1,h2,⟨q,z,h3⟩,h4⟩
   exact ⟨x,vs,h1,h2,⟨(q.1+k,q.2),zV.mpr ⟨q,z,rfl⟩,h3⟩,h4⟩
theorem RS.shift (rs:RS C p σ F H):RS (C.sh k) (List.replicate k none++p) (List.replicate k none++σ) F H:=by
 refine ⟨rs.sub,rs.ext,rs.new,λx o h n=>rs.keep x o h λq D=>n (q.1+k,q.2) (zV.mpr ⟨q,D,rfl⟩),rs.grow,by rw [zj,zj,zD,zD,rs.len],λi s h=>?_,λi j s s' x I e1 m1 e2 Z O J=>?_,λq D=>?_⟩
 ·obtain ⟨j,rfl,h1⟩:=wK h
  obtain ⟨v,e1,r⟩:=rs.sl j s h1
  exact ⟨v,by rw [tD];exact e1,Ut.mpr r⟩
 ·obtain ⟨i',rfl,h1⟩:=wK e1
  obtain ⟨j',rfl,h2⟩:=wK e2
  rw [tD] at O J
  exact rs.apart i' j' s s' x (λz=>I (by rw [z])) h1 m1 h2 Z O J
 ·obtain ⟨q',B,e⟩:=zV.mp D
  obtain ⟨Y,xs,U⟩:=rs.pin q' B
  subst e
  have e:q'.1+k=k+q'.1:=Nat.add_comm _ _
  exact ⟨by show (List.replicate k none++σ)[q'.1+k]? = _;rw [e,tD];exact Y,xs,by show (List.replicate k none++p)[q'.1+k]? = _;rw [e,tD];exact U⟩
theorem RS.rE (rs:RS (C.sh k) p σ F H) (hk:k<=p.length):RS C (p.drop k) (σ.drop k) F H:=by
 refine ⟨rs.sub,rs.ext,rs.new,λx o h n=>rs.keep x o h λq D=>?_,rs.grow,by rw [yA,yA,rs.len],λi s h=>?_,λi j s s' x I e1 m1 e2 Z O J=>?_,λq D=>?_⟩
 ·obtain ⟨q',B,e⟩:=zV.mp D
  rw [<-e];exact n q' B
 ·rw [yp] at h
  obtain ⟨v,e1,r⟩:=rs.sl _ s h
  exact ⟨v,by rw [yp];exact e1,Ut.mp r⟩
 ·rw [yp] at e1 e2 O J
  exact rs.apart _ _ s s' x (λz=>I (by omega)) e1 m1 e2 Z O J
 ·obtain ⟨Y,xs,U⟩:=rs.pin (q.1+k,q.2) (zV.mpr ⟨q,D,rfl⟩)
  have e:q.1+k=k+q.1:=Nat.add_comm _ _
  refine ⟨?_,xs,?_⟩
  ·rw [yp,<-e];exact Y
  ·rw [yp,<-e];exact U
def XGk (C:Pc) (k:Nat) (p:aO) (B:St) (F:Hp) (R:aO->Prop) (n:St) (D:Hp):Prop:=∃p1 z,RS C p1 n z D/\aP F z/\jM p p1/\n.drop k=B.drop k/\R p1
def nQ (C:Pc) (k:Nat) (g:sX):TG:=λv σ H Q=>∃p F x R,RS C p σ F H/\Rep C.K F x v/\g x p R/\∀n H1,XGk C k p σ F R n H1->Q n H1
def BV (C:Pc) (k:Nat) (g:uO):Qw:=λvs σ H Q=>∃p F xs R,RS C p σ F H/\aN C.K F xs vs/\g xs p R/\∀n H1,XGk C k p σ F R n H1->Q n H1
theorem QGk.mk (h:PG X tg g) (hi:∀p σ F H x v R,RS C p σ F H->Rep C.K F x v->g' x p R->g v σ H (XGk C k p σ F R)):PG X tg (nQ C k g'):=λpins s σ H v u Q I r z=>by
 obtain ⟨p,F,x,R,D,B,O,J⟩:=z
 exact bu (h pins s σ H v u _ I r (hi p σ F H x v R D B O)) λ_ _ z=>by obtain ⟨n,H1,U,q1⟩:=z;exact ⟨n,H1,U,J n H1 q1⟩
theorem aam.mk (h:vR X tgs g) (hi:∀p σ F H xs vs R,RS C p σ F H->aN C.K F xs vs->g' xs p R->g vs σ H (XGk C k p σ F R)):vR X tgs (BV C k g'):=λpins s σ H v u Q I r z=>by
 obtain ⟨p,F,x,R,D,B,O,J⟩:=z
 exact bu (h pins s σ H v u _ I r (hi p σ F H x v R D B O)) λ_ _ z=>by obtain ⟨n,H1,U,q1⟩:=z;exact ⟨n,H1,U,J n H1 q1⟩
def l_ (i:Nat):sX:=λx p Q=>fO p i=none/\Q (p.set i (some (.d x)))
theorem d7 (O:i<k) (hN:X.N.Nodup) (hi:X.N[i]? = some x) (J:Loc X.env.scope x) (hf:X.fn x=true\/X.env.scope.names.lookup x=some .local:=by first|exact .inl rfl|exact .inr rfl|assumption):PG X (.Name x pos) (nQ C k (l_ i)):=
 QGk.mk (Gg hN hi J hf) λp σ F H x v R I D B=>by
  obtain ⟨n,q⟩:=B
  have U:lM p i=true:=by
   unfold lM
   unfold fO at n
   split
   ·rename_i e;rw [e] at n;cases n
   ·rfl
  refine ⟨_,F,I.uN U D,.refl _,⟨zR,λj s e m=>?_⟩,?_,q⟩
  ·by_cases z:i=j
   ·subst z
    unfold fO at n
    rw [e] at n
    cases s with
    | d x=>cases m
    | own xs=>cases n
    | bor xs=>cases n
   ·exact ⟨s,by rw [zi z];exact e,m⟩
  ·apply List.ext_getElem?
   intro j
   rw [yp,yp,zi (by omega)]
theorem GP:vR X [] (BV C k BK):=aam.mk vU λp σ F H xs vs R B z n=>by
 obtain ⟨h,q⟩:=n
 subst h;cases z
 exact ⟨rfl,p,F,B,.refl _,.refl _,rfl,q⟩
theorem nR {e:Expr} (h1:PG X e (nQ C k g)) (h2:vR X es (BV C k gs))
  (hs:(assignEach (e::es) X.env).map (·.2)=assign e X.env::(assignEach es X.env).map (·.2):=by rfl):vR X (e::es) (BV C k (pM g gs)):=
 aam.mk (Ax h1 h2 hs) λp σ F H xs vs R rs Z n=>by
  obtain ⟨x,r,hx,q⟩:=n
  subst hx
  cases Z with
  | cons r1 r2=>
   refine ⟨_,_,rfl,p,F,x,_,rs,r1,q,λU H1 n=>?_⟩
   obtain ⟨p1,F1,I,J,B,d1,q1⟩:=n
   exact ⟨p1,F1,r,R,I,r2.mono J,q1,λO H2 n=>by obtain ⟨p2,F2,D,Y,z,d2,q2⟩:=n;exact ⟨p2,F2,D,J.trans Y,B.trans z,d2.trans d1,q2⟩⟩
theorem Mq {D:uO} (hK:X.K=C.K) (Z:X.calm=true) (h:vR X es (BV C k D)) (U:(assignEach es X.env).length=n:=by rfl) (z:(assignEach es X.env).findIdx? (·.1)=none:=by rfl):PG X (.Tuple es k' pos) (nQ C k (BL n D)):=
 QGk.mk (Gp hK Z h U z) λp σ F H x v R B J I=>by
  obtain ⟨xs,O,Y,q⟩:=I
  subst O
  cases J with
  | tup q1 r1=>exact ⟨_,_,rfl,.of (B.sub _ _ q1),by rw [<-r1.length];exact Y,p,F,xs,R,B,r1,q,λ_ _ h=>h⟩
def tE:m8:=λp Q=>Q true p
theorem jn:v9 X [] (gf C tE):=λpins s σ H Q I n=>by obtain ⟨p,F,R,z,B,D⟩:=n;exact Q8 pins s σ H Q I (D true H ⟨p,F,z,.refl _,.refl _,B⟩)
theorem Xd (h:PT X c (gf C tt)):v9 X [c] (gf C tt):=Q9 h
def wL {β:Type} (z:β) (len:β->Nat) (J:β->aO->(β->aO->Prop)->Prop) (k:Nat) (ti:uP) (g:sX) (D:m8) (p:aO) (Q:β->aO->Prop):Prop:=ti p λn item p1=>∃I:Nat->β->aO->Prop,I 0 z (List.replicate k none++p1)/\n<=100000 /\
 (∀i ys p2,i<n->I i ys p2->len ys<=i/\g (item i) p2 λO=>D O λb B=>if b=true then J ys B (I (i+1)) else I (i+1) ys B)/\∀ys p2,I n ys p2->Q ys (p2.drop k)
abbrev adD (z:TQ) (n:List D) (p:aO) (Q:List D->aO->Prop):Prop:=z p λe B=>∃y,e=.fz y/\Q (n++[y]) B
def lN (k:Nat) (ti:uP) (g:sX) (n:m8) (z:TQ):TN:=λp Q=>wL [] List.length (adD z) k ti g n p λys p1=>Q (.ro ys) p1
inductive Xe (C:Pc) (k:Nat) {α β:Type} (rel:Hp->β->α->Prop) (p1:aO) (F1:Hp) (σ:St) (J:β->aO->Prop) (ys:α) (σ2:St) (H2:Hp):Prop
 | mk (p2:aO) (F2:Hp) (zs:β):RS (C.sh k) p2 σ2 F2 H2->aP F1 F2->jM (List.replicate k none++p1) p2->σ2.drop k=σ->rel F2 zs ys->J zs p2->Xe C k rel p1 F1 σ J ys σ2 H2
theorem RS.block {p1 B:aO} {n:St} {O J:Hp} (D:RS (C.sh k) B n O J) (z:jM (List.replicate k none++p1) B) (Y:n.drop k=σ):RS C (B.drop k) σ O J/\jM p1 (B.drop k):=by
 have I:=z.1
 rw [zj,zD] at I
 refine ⟨Y▸D.rE (by omega),by rw [yA,I,Nat.add_sub_cancel_left],λj s h m=>?_⟩
 obtain ⟨s',h',U⟩:=z.2 (k+j) s (by rw [tD];exact h) m
 exact ⟨s',by rw [yp];exact h',U⟩
theorem vm {α β:Type} {ho:α->HO} {len:α->Nat} {emp:α} {ta:α->St->Hp->(α->Hp->Prop)->Prop} {aan:β} {Z:β->Nat} {tb:β->aO->(β->aO->Prop)->Prop} {ti:uP} {g:sX} {tt:m8} {R:β->aO->Prop} {Q:VK} (z:Hp->β->α->Prop) (mono:∀{F F' b a},aP F F'->z F b a->z F' b a) (r0:∀F,z F aan emp) (adE:∀{F b a},z F b a->len a=Z b)
  (add:∀{p σ F H b a} {M:α->Hp->Prop} {N:β->aO->Prop},RS (C.sh k) p σ F H->z F b a->tb b p N->(∀zs ws p1 D H1,RS (C.sh k) p1 σ D H1->aP F D->jM p p1->z D zs ws->N zs p1->M ws H1)->ta a σ H M)
  (rs:RS C p σ F H) (ht:wL aan Z tb k ti g tt p R) (hq:∀A p1 D H1 zs ws,RS C p1 σ D H1->aP F D->jM p p1->H1 A=none->z D zs ws->R zs p1->Q (.ref A) (upd H1 A (ho ws))) :
  pq ho len emp ta k (vh C ti) (nQ (C.sh k) k g) (gf (C.sh k) tt) σ H Q:=
 ⟨p,F,_,rs,ht,λJ H1 zq=>by
  obtain ⟨n,item,p1,D,GK,s1,Ql,jq,I,i0,hn,istep,Em⟩:=zq
  refine ⟨λi m ys σ2 H2=>m=n - i/\i<=n/\Xe C k z p1 D σ (I i) ys σ2 H2,⟨n,by simp,yu _,_,D,_,GK.shift,.refl _,.refl _,by simp,r0 _,i0⟩,?_⟩
  rintro i m ys σ2 H2 ⟨rfl,hi,p2,F2,zs,U,s2,Qk,d2,rz,i2⟩
  by_cases B:i<n
  ·obtain ⟨hl,st⟩:=istep i zs p2 B i2
   refine .inr ⟨jq.go i F2 H2 U.sub s2 B,?_,Xe C k z p1 D σ (I (i+1)),λ_ _ _ h=>⟨n - (i+1),by omega,rfl,B,h⟩,λx H' y=>?_⟩
   ·rw [adE rz];exact Nat.lt_of_le_of_lt hl (zE (zE B hn) (by decide))
   obtain ⟨F3,JH,s3,r3⟩:=JQ.out (C:=C.sh k) jq U s2 B y
   refine ⟨p2,F3,item i,_,JH,r3,st,λσ4 H4 zq=>?_⟩
   obtain ⟨p4,F4,RJ,s4,sh4,d4,q4⟩:=zq
   refine qM RJ q4 λb p5 F5 H5 rs5 s5 sh5 q5=>?_
   have O:=s3.trans (s4.trans s5)
   have Y:=Qk.trans (sh4.trans sh5)
   exact dZ (λq5=>add rs5 (mono O rz) q5 λzs' ws p6 F6 H6 rs6 s6 sh6 r6 q6=>⟨p6,F6,zs',rs6,(s2.trans O).trans s6,Y.trans sh6,d4.trans d2,r6,q6⟩) (λq5=>⟨p5,F5,zs,rs5,s2.trans O,Y,d4.trans d2,mono O rz,q5⟩) q5
  ·have e:i=n:=by omega
   subst e
   obtain ⟨JH,sh3⟩:=U.block Qk d2
   exact .inl ⟨jq.stop F2 H2 U.sub s2,λA hA=>hq A _ F2 H2 zs ys JH (s1.trans s2) (Ql.trans sh3) hA rz (Em zs p2 i2)⟩⟩
theorem tG {ti:uP} {g:sX} {J:m8} {O:TQ} {R:Rt->aO->Prop} {Q:VK} (rs:RS C p σ F H) (ht:lN k ti g J O p R) (hq:∀v H1,XN C p σ F R v H1->Q v H1) :
  Bl k (vh C ti) (nQ (C.sh k) k g) (gf (C.sh k) J) (Up (C.sh k) O) σ H Q:=
 vm (aN C.K) (λs r=>r.mono s) (λ_=>.nil) (λr=>r.length.symm) (λrs rz q k=>up1 rs q λe6 p6 v6 F6 H6 B U n I Y=>by
  obtain ⟨z,hz,q6⟩:=Y
  subst hz
  exact k _ _ p6 F6 H6 B U n ((rz.mono U).append (.cons I .nil)) q6) rs ht λA p1 F1 H1 zs ws D Z sh hA r q=>hq _ _ (ig D Z sh hA r q)
theorem pN {n:Expr} (S:aU X scope N k) (J:X.calm=true) (hi:PI X tg iter (vh C ti))
  (I:∀Z s H fp,PG (bz X scope N Z s H fp) tg (nQ (C.sh k) k g)) (z:∀Z s H fp,v9 (bz X scope N Z s H fp) ifs (gf (C.sh k) tt)) (he:∀Z s H fp,PE (bz X scope N Z s H fp) n (Up (C.sh k) te))
  (D:∀x,foldedSetIterable iter X.env x=pure x:=by intro _;rfl):PE X (.ListComp n [⟨tg,iter,ifs,0⟩] scope pos) (m9 C (lN k ti g tt te)):=
 QN.mk (Ra S J hi I z he D) λp σ F H R B z=>tG B z λ_ _ h=>h
theorem En {n:Pos} (hN:X.N.Nodup) (J:X.N[i]? = some x) (hx:Loc X.env.scope x) (S:aU X scope N k) (hc:X.calm=true) (hi:PI X tg iter (vh C ti))
  (hg:∀Z s H fp,PG (bz X scope N Z s H fp) tg (nQ (C.sh k) k g)) (D:∀Z s H fp,v9 (bz X scope N Z s H fp) ifs (gf (C.sh k) tt)) (he:∀Z s H fp,PE (bz X scope N Z s H fp) elt (Up (C.sh k) te))
  (I:swapsWith (.ListComp elt [⟨tg,iter,ifs,0⟩] scope pos2) (some (.Name x n)) pos.line X.env=pure true:=by rfl)
  (hs:∀x,foldedSetIterable iter X.env x=pure x:=by intro _;rfl) (hf:X.fn x=true\/X.env.scope.names.lookup x=some .local:=by first|exact .inl rfl|exact .inr rfl|assumption) :
  PS X (.Assign [.Name x n] (.ListComp elt [⟨tg,iter,ifs,0⟩] scope pos2) pos) (iU C (Ma i (qFz (lN k ti g tt te)))):=
 QS.mk (sI hN J hx S hc hi hg D he I hs hf) λp σ F H E rs D=>tG (R:=λr p1=>∃y,Ev.fz r.val=.fz y/\lM p1 i=true/\E.nx (p1.set i (some (.d y)))) rs D λv H1 O=>by
  obtain ⟨r,p1,F1,B,Y,sh,rr,y,hy,hn,q⟩:=O
  obtain ⟨F2,z,U,r2⟩:=rr.fz B
  cases hy
  exact ⟨_,F2,z.uN hn r2,Y.trans U,q⟩
end
theorem aaq {α:Type} (x:α) (xs:List α):gA (x::xs) 0=some x:=dF (j:=0) rfl
theorem aar {α:Type} (x y:α) (xs:List α):gA (x::y::xs) 1=some y:=dF (j:=1) rfl
theorem aas {α:Type} (x y z:α) (xs:List α):gA (x::y::z::xs) 2=some z:=dF (j:=2) rfl
theorem aat {α:Type} (x y z u:α) (xs:List α):gA (x::y::z::u::xs) 3=some u:=dF (j:=3) rfl
theorem Xf:Bf 2 0=some 0:=rfl
theorem Xg:Bf 2 1=some 1:=rfl
theorem getD_ints {ns:List Int} (h:i<ns.length):(ns.map D.int).getD i .non=.int (ns.getD i 0):=by
 rw [zw,zN,zg h,zw,zg h];rfl
theorem Mr (n:Nat) (x:Int):(List.replicate n [D.int x]).flatten=(List.replicate n x).map D.int:=by
 induction n with
 | zero=>rfl
 | succ n ih=>rw [zM,yF,ih,zM];rfl
theorem vo {E:gR} {item:Nat->D} (z:∀Q:Nat->(Nat->D)->aO->Prop,Q n item p1->ti p Q) (I:Nat->aO->Prop) (h0:I 0 p1)
  (B:∀i p2,i<n->I i p2->g (item i) p2 λp3=>tb { E with nx:=I (i+1),ct:=I (i+1),bk:=E.nx } p3) (hd:∀p2,I n p2->E.nx p2):Xb ti g tb E p:=z _ ⟨I,h0,B,hd⟩
theorem nU {E:gR} (I:aO->Prop) (n:aO->Nat) (h0:I p)
  (z:∀p1,I p1->c p1 λb p2=>if b=true then tb { E with nx:=λq=>I q/\n q<n p1,ct:=λq=>I q/\n q<n p1,bk:=E.nx } p2 else E.nx p2):Mi c tb E p:=⟨I,n,h0,z⟩
theorem wM {k:Nat} {item:Nat->D} (z:∀Q:Nat->(Nat->D)->aO->Prop,Q n item p1->ti p Q) (J:n<=100000) (I:Nat->List D->aO->Prop) (h0:I 0 [] (List.replicate k none++p1))
  (O:∀i ys p2,I i ys p2->ys.length<=i)
  (B:∀i ys p2,i<n->I i ys p2->g (item i) p2 λp3=>tt p3 λb p4=>if b=true then te p4 λe p5=>∃y,e=.fz y/\I (i+1) (ys++[y]) p5 else I (i+1) ys p4) (hd:∀ys p2,I n ys p2->Q (.ro ys) (p2.drop k)):lN k ti g tt te p Q:=
 z _ ⟨I,h0,J,λi ys p2 hi h=>⟨O i ys p2 h,B i ys p2 hi h⟩,hd⟩
theorem comp_map {item:Nat->D} (z:∀Q:Nat->(Nat->D)->aO->Prop,Q n item p1->ti p Q) (I:n<=100000) (f:Nat->D)
  (B:∀i (R:Ev->aO->Prop),i<n->R (.fz (f i)) (some (.d (item i))::p1)->te (some (.d (item i))::p1) R) (hd:Q (.ro ((List.range n).map f)) p1):lN 1 ti (l_ 0) tE te p Q:=by
 refine wM z I (λi ys p2=>ys=(List.range i).map f/\∃o:Option D,p2=(o.map Sl.d)::p1) ⟨rfl,none,rfl⟩ (λi ys p2 h=>by rw [h.1,z9,List.length_range];exact zx _) ?_ ?_
 ·rintro i ys p2 hi ⟨rfl,o,rfl⟩
  refine ⟨by cases o<;>rfl,?_⟩
  show tE (some (.d (item i))::p1) _
  unfold tE
  simp only [if_true]
  refine B i _ hi ⟨_,rfl,?_,some (item i),rfl⟩
  rw [List.range_succ,yf];rfl
 ·rintro ys p2 ⟨rfl,o,rfl⟩
  exact hd
theorem BW {item:Nat->D} (z:∀Q:Nat->(Nat->D)->aO->Prop,Q n item p1->ti p Q) (J:n<=100000) (t:Nat->Bool) (f:Nat->D)
  (I:∀i (R:Bool->aO->Prop),i<n->R (t i) (some (.d (item i))::p1)->tt (some (.d (item i))::p1) R)
  (he:∀i (R:Ev->aO->Prop),i<n->t i=true->R (.fz (f i)) (some (.d (item i))::p1)->te (some (.d (item i))::p1) R) (hd:Q (.ro (((List.range n).filter t).map f)) p1):lN 1 ti (l_ 0) tt te p Q:=by
 refine wM z J (λi ys p2=>ys=((List.range i).filter t).map f/\∃o:Option D,p2=(o.map Sl.d)::p1) ⟨rfl,none,rfl⟩ (λi ys p2 h=>by
  rw [h.1,z9]
  exact zY (List.length_filter_le _ _) (by rw [List.length_range];exact zx _)) ?_ ?_
 ·rintro i ys p2 hi ⟨rfl,o,rfl⟩
  refine ⟨by cases o<;>rfl,?_⟩
  show tt (some (.d (item i))::p1) _
  refine I i _ hi ?_
  cases B:t i with
  | true=>
   rw [zo rfl]
   refine he i _ hi B ⟨_,rfl,?_,some (item i),rfl⟩
   rw [List.range_succ,List.filter_append,yf]
   simp [B]
  | false=>
   rw [zh y9]
   refine ⟨?_,some (item i),rfl⟩
   rw [List.range_succ,List.filter_append]
   simp [B]
 ·rintro ys p2 ⟨rfl,o,rfl⟩
  exact hd
end L2
namespace L2
open PySem
section
variable {o:Option Sl} {p:aO} {i:Nat} {x:D} {xs ys:List D} {u:Option D}
theorem adG:lM (o::p) (i+1)=lM p i:=rfl
theorem adH:lM (none::p) 0=true:=rfl
theorem adI:lM (some (.d x)::p) 0=true:=rfl
theorem adJ:lM (some (.own xs)::p) 0=true:=rfl
theorem adK:lM (Option.map Sl.d u::p) 0=true:=by cases u<;>rfl
theorem adL:fO (o::p) (i+1)=fO p i:=rfl
theorem adM:fO (none::p) 0=none:=rfl
theorem adN:fO (some (.d x)::p) 0=none:=rfl
theorem adO:fO (some (.own xs)::p) 0=some xs:=rfl
theorem adP:fO (some (.bor xs)::p) 0=some xs:=rfl
theorem adQ:fO (Option.map Sl.d u::p) 0=none:=by cases u<;>rfl
theorem adR:putL (o::p) (i+1) ys=o::putL p i ys:=by
 unfold putL
 rw [List.getElem?_cons_succ]
 cases h:p[i]? with
 | none=>rfl
 | some s=>cases s<;>rfl
theorem adS {s:Sl}:putL (some s::p) 0 ys=some (s.put ys)::p:=rfl
end
theorem dU (I:aO->Prop) (h:∀k:aO->Prop,(∀p',I p'->k p')->t { E with nx:=k } p) (n:∀p',I p'->R E p'):uM t R E p:=h (R E) n
theorem d8 (h:t { E with nx:=R E } p):uM t R E p:=h
theorem RK {α:Type} (xs:List α) (h:xs≠[]):∃ys y,xs=ys++[y]:=⟨xs.dropLast,xs.getLast h,(yD h).symm⟩
theorem Uu {E:gR} (h:ti p λn item p1=>∃I:Nat->aO->Prop,I 0 p1/\(∀i p2,i<n->I i p2->g (item i) p2 λp3=>tb { E with nx:=I (i+1),ct:=I (i+1),bk:=E.nx } p3)/\∀p2,I n p2->E.nx p2):Xb ti g tb E p:=h
end L2
namespace L2
open PySem PySem.Spec PyProof.Rows
section
variable {X:Cx} {C:Pc} {a b c e:Expr} {ta tb tc:TQ} {cI:TAQ} {pos ps:Pos}
def Ms (z n:TQ):TQ:=λp Q=>z p λe1 p1=>n p1 λe2 p2=>∃x y,lk p2 e1=.str x/\lk p2 e2=.str y/\x.length+y.length<=100000/\Q (.fz (.str (x++y))) p2
theorem cM (Z:PE X a (Up C ta)) (Y:PE X b (Up C tb)):PE X (.BinOp a .Add b pos) (Up C (Ms ta tb)):=
 QE.mk (su Ds Z Y) λp σ F H R J U=>sV J U λe1 e2 p1 v1 v2 F1 H1 n I sh B z D=>by obtain ⟨x,y,h1,h2,O,q⟩:=D;exact ⟨x,y,bI B h1,bI z h2,h_ O,aZ n I sh (.str _) q⟩
theorem Eo:g8 X (binaryOp .Mult) (λx y H Q=>∃z n,x=.str z/\y=.int n/\MulOk z n/\Q (.str (Txt.mul z n)) H):=by
 intro pins s σ H x y v u Q I J D h
 obtain ⟨z,n,rfl,rfl,O,q⟩:=h
 obtain ⟨t,rfl⟩:=J
 obtain ⟨U,rfl⟩:=D
 exact SB.mul O λB k=>⟨.str _,H,I.tok _,⟨_,rfl⟩,q⟩
def Mt (B z:TQ):TQ:=λp Q=>B p λe1 p1=>z p1 λe2 p2=>∃x n,lk p2 e1=.str x/\lk p2 e2=.int n/\MulOk x n/\Q (.fz (.str (Txt.mul x n))) p2
theorem mj (ha:PE X a (Up C ta)) (Z:PE X b (Up C tb)):PE X (.BinOp a .Mult b pos) (Up C (Mt ta tb)):=
 QE.mk (su Eo ha Z) λp σ F H R O Y=>sV O Y λe1 e2 p1 v1 v2 F1 H1 z J sh D B I=>by obtain ⟨x,n,h1,h2,U,q⟩:=I;exact ⟨x,n,bI D h1,aY B h2,U,aZ z J sh (.str _) q⟩
theorem Jc:g_ X (.type "int") (λxs H Q=>∃x n,xs=[.str x]/\intText? x=some n/\x.length<=640/\Q (.int n) H):=by
 intro pins s σ H xs B Q I r h
 obtain ⟨x,n,rfl,h1,h2,q⟩:=h
 obtain ⟨u,rfl,z⟩:=vals1 r
 obtain ⟨t,rfl⟩:=z
 exact PySem.W.KIN.call_text h1 h2 ⟨.int n,H,I.tok _,⟨_,rfl⟩,q⟩
def Mu (z:TAQ):TQ:=λp Q=>z p λes p1=>∃e x n,es=[e]/\lk p1 e=.str x/\intText? x=some n/\x.length<=640/\Q (.fz (.int n)) p1
theorem nW (Z:Gl X "int") (Y:X.mg "int"=none) (ha:PA X [e] (gJ C cI)) (he:starEach [e] X.env=(false,eval e X.env)::starEach [] X.env:=by rfl):PE X (.Call (.Name "int" ps) [e] [] pos) (Up C (Mu cI)):=
 QE.mk (o8 Jc Z Y (by kernel_rfl) ha (he:=he)) λp σ F H R O U=>dR O U λes1 p1 I F1 H1 z J sh B D=>by
  obtain ⟨e1,x,n,h1,h2,h3,h4,q⟩:=D
  obtain ⟨v,rfl,er⟩:=qO B h1
  exact ⟨x,n,by rw [bI er h2],h3,h4,aZ z J sh (.int _) q⟩
end
mutual
def toP:D->PyData
 | .non=>.none
 | .bl b=>.bool b
 | .int i=>.int i
 | .str x=>.str x
 | .lst xs=>.list (toPs xs)
 | .tup xs=>.tuple (toPs xs)
 | .atom _=>.none
 | .Aj ns=>.list (ns.map PyData.int)
 | .lK _ _=>.none
 | .exc _=>.none
def toPs:List D->List PyData
 | []=>[]
 | x::xs=>toP x::toPs xs
end
mutual
def plain:D->Bool
 | .atom _=>false
 | .lK _ _=>false
 | .exc _=>false
 | .lst xs=>iH xs
 | .tup xs=>iH xs
 | _=>true
def iH:List D->Bool
 | []=>true
 | x::xs=>plain x && iH xs
end
theorem tH:∀{ns:List Int} {z:List Value},Vals (ns.map V.int) z->∃as,ReadsAll h z (ns.map PyData.int) as
 | [],_,r=>by cases r;exact ⟨_,.nil⟩
 | n::ns,_,r=>by
  cases r with
  | cons h1 t=>
   obtain ⟨tk,rfl⟩:=h1
   obtain ⟨as,B⟩:=tH (ns:=ns) t
   exact ⟨_,.cons (.int _ _) B⟩
section
variable {X:Cx} {pins:List (Addr × Obj)} {s:Shared} {σ:St} {H F:Hp}
theorem mq {h:Heap} {z:List Value} (pl:h.IsList a z.toArray) (B:ReadsAll h z xs as):Reads h (.ref a) (.list xs) (a::as):=by
 obtain ⟨o,h1,h2,n,h3⟩:=pl
 exact .list h1 h2 h3 B
theorem Jd {z:List Value} (pl:IsTup h a z.toArray) (B:ReadsAll h z xs as):Reads h (.ref a) (.tuple xs) as:=by
 obtain ⟨o,h1,h2,n,h3⟩:=pl
 exact .tuple h1 h2 h3 B
mutual
theorem BX (I:Inv X pins σ H s) (sm:aP F H):∀{d:D} {v:V} {u:Value},Rep X.K F d v->plain d=true->RelV v u->∃as,Reads s.heap u (toP d) as
 | _,_,_,.non,_,r=>by cases r;exact ⟨_,.none⟩
 | _,_,_,.bl b,_,r=>by cases r;exact ⟨_,.bool b⟩
 | _,_,_,.int i,_,r=>by obtain ⟨t,rfl⟩:=r;exact ⟨_,.int i t⟩
 | _,_,_,.str x,_,r=>by obtain ⟨t,rfl⟩:=r;exact ⟨_,.str x t⟩
 | _,_,_,.atom v,hp,_=>by simp [plain] at hp
 | _,_,_,.lK _ _ _,hp,_=>by simp [plain] at hp
 | _,_,_,.exc _,hp,_=>by simp [plain] at hp
 | _,_,_,.lst q rl,hp,r=>by
  cases r
  obtain ⟨B,n,pl,_⟩:=I.list (.of (sm _ _ q))
  obtain ⟨as,z⟩:=kE I sm rl (by simpa only [plain] using hp) n
  exact ⟨_,mq pl.isList z⟩
 | _,_,_,.tup q rl,hp,r=>by
  cases r
  obtain ⟨B,n,pl,_⟩:=I.tuple (.inl (.inl (sm _ _ q)))
  obtain ⟨as,z⟩:=kE I sm rl (by simpa only [plain] using hp) n
  exact ⟨_,Jd pl z⟩
 | _,_,_,.Aj q,_,r=>by
  cases r
  obtain ⟨B,n,pl,_⟩:=I.list (sm.seq q)
  obtain ⟨as,z⟩:=tH (h:=s.heap) n
  exact ⟨_,mq pl.isList z⟩
theorem kE (I:Inv X pins σ H s) (sm:aP F H):∀{ds:List D} {vs:List V} {z:List Value},aN X.K F ds vs->iH ds=true->Vals vs z->∃as,ReadsAll s.heap z (toPs ds) as
 | _,_,_,.nil,_,r=>by cases r;exact ⟨_,.nil⟩
 | _,_,_,.cons q rl,hp,r=>by
  cases r with
  | cons h1 t=>
   have n:=hp
   simp only [iH,yy] at n
   obtain ⟨as,J⟩:=BX I sm q n.1 h1
   obtain ⟨bs,B⟩:=kE I sm rl n.2 t
   exact ⟨_,.cons J B⟩
end
end
def RdV (K:PySem.W.Frag) (H:Hp) (d:D) (v:V):Prop:=∃F,aP F H/\(Rep K F d v\/∃(a:Addr) (vs:List V) (ds:List D),v=.ref a/\d=.lst ds/\H a=some (.lst vs)/\aN K F ds vs)
section
variable {X:Cx} {C:Pc} {pins:List (Addr × Obj)} {s:Shared} {σ:St} {H F:Hp}
theorem RdV.reads (h:RdV X.K H d v) (I:Inv X pins σ H s) (n:plain d=true) (r:RelV v u):∃as,Reads s.heap u (toP d) as:=by
 obtain ⟨F,sm,h|⟨a,vs,ds,rfl,rfl,q,B⟩⟩:=h
 ·exact BX I sm h n r
 ·cases r
  obtain ⟨J,z,pl,_⟩:=I.list (.of q)
  obtain ⟨as,D⟩:=kE I sm B (by simpa only [plain] using n) z
  exact ⟨_,by simp only [toP];exact mq pl.isList D⟩
theorem vp (rs:RS C p σ F H) (z:lA C.K p σ F e v):RdV C.K H (lk p e) v:=by
 cases e with
 | fz x=>exact ⟨F,rs.sub,.inl z⟩
 | ow i=>
  obtain ⟨⟨s,h1,m⟩,h2⟩:=z
  obtain ⟨w,e1,sr⟩:=rs.sl i s h1
  rw [h2] at e1;cases e1
  have B:lk p (.ow i)=s.val:=by show (match p[i]? with|some (some s)=>s.val|_=>.non)=_;rw [h1]
  rw [B]
  cases s with
  | d x=>cases m
  | own xs=>obtain ⟨a,vs,rfl,_,_,q,n⟩:=sr;exact ⟨F,rs.sub,.inr ⟨a,vs,xs,rfl,rfl,q,n⟩⟩
  | bor xs=>obtain ⟨a,vs,rfl,_,_,q,n⟩:=sr;exact ⟨F,rs.sub,.inr ⟨a,vs,xs,rfl,rfl,q,n⟩⟩
end
structure Ep (d:D):Prop where
 pl:plain d=true
 ly:(toP d).canLay0=true
 dp:(toP d).depth<=30
def wN (x y:D):Bool:=PyData.eqv (toP x) (toP y)
section
variable {X:Cx} {C:Pc} {a b c e:Expr} {ta tb:TQ} {pos ps:Pos} {K:PySem.W.Frag}
def RL (K:PySem.W.Frag) (f:Bool->Bool):R2:=λx y H Q=>∃dx n,RdV K H dx x/\RdV K H n y/\Ep dx/\Ep n/\Q (.bl (f (wN dx n))) H
theorem Xh (U:X.A.units+64<cLine):g8 X (compareOp .Eq) (RL X.K λk=>k):=by
 intro pins s σ H x y v u Q I D B h
 obtain ⟨dx,Y,h1,h2,n,z,q⟩:=h
 obtain ⟨as,O⟩:=h1.reads I n.pl D
 obtain ⟨bs,J⟩:=h2.reads I z.pl B
 exact SeqAt.compareEq_reads O J n.ly z.ly (by have:=n.dp;omega) ⟨.bl _,H,I,rfl,q⟩
theorem Xi (U:X.A.units+64<cLine):g8 X (compareOp .NotEq) (RL X.K λk=>!k):=by
 intro pins s σ H x y v u Q I D B h
 obtain ⟨dx,Y,h1,h2,n,z,q⟩:=h
 obtain ⟨as,O⟩:=h1.reads I n.pl D
 obtain ⟨bs,J⟩:=h2.reads I z.pl B
 exact SeqAt.compareNe_reads O J n.ly z.ly (by have:=n.dp;omega) ⟨.bl _,H,I,rfl,q⟩
theorem GQ (h:X.K=K) (n:X.A.units+64<cLine):g8 X (compareOp .Eq) (RL K λk=>k):=by subst h;exact Xh n
theorem RM (h:X.K=K) (n:X.A.units+64<cLine):g8 X (compareOp .NotEq) (RL K λk=>!k):=by subst h;exact Xi n
def Mv (f:Bool->Bool) (z n:TQ):TQ:=λp Q=>z p λe1 p1=>n p1 λe2 p2=>Ep (lk p2 e1)/\Ep (lk p2 e2)/\Q (.fz (.bl (f (wN (lk p2 e1) (lk p2 e2))))) p2
theorem Mw (hK:X.K=C.K) (Y:X.A.units+64<cLine) (ha:PE X a (Up C ta)) (hb:PE X b (Up C tb)):PE X (.Compare a [.Eq] [b] pos) (Up C (Mv (λk=>k) ta tb)):=
 QE.mk (qY (GQ hK Y) ha hb (gO _)) λp σ F H R J Z=>sV J Z λe1 e2 p1 v1 v2 F1 H1 n I sh B z D=>by obtain ⟨U,O,q⟩:=D;exact ⟨_,_,vp n B,vp n z,U,O,aZ n I sh (.bl _) q⟩
theorem Uv (hK:X.K=C.K) (Y:X.A.units+64<cLine) (ha:PE X a (Up C ta)) (hb:PE X b (Up C tb)):PT X (.Compare a [.Eq] [b] pos) (gf C (gh (Mv (λk=>k) ta tb))):=
 QT.mk (gD (GQ hK Y) ha hb (gO _)) λp σ F H R J Z=>sV J Z λe1 e2 p1 v1 v2 F1 H1 n I sh B z D=>by obtain ⟨U,O,k,hk,q⟩:=D;exact ⟨_,_,vp n B,vp n z,U,O,k,by cases hk;rfl,p1,F1,n,I,sh,q⟩
theorem Uw (hK:X.K=C.K) (Y:X.A.units+64<cLine) (ha:PE X a (Up C ta)) (hb:PE X b (Up C tb)):PT X (.Compare a [.NotEq] [b] pos) (gf C (gh (Mv (λk=>!k) ta tb))):=
 QT.mk (gD (RM hK Y) ha hb (gO _)) λp σ F H R J Z=>sV J Z λe1 e2 p1 v1 v2 F1 H1 n I sh B z D=>by obtain ⟨U,O,k,hk,q⟩:=D;exact ⟨_,_,vp n B,vp n z,U,O,k,by cases hk;rfl,p1,F1,n,I,sh,q⟩
end
section
variable {X:Cx} {C:Pc} {a b c e:Expr} {ta tb tc:TQ} {cI:TAQ} {pos ps ps2:Pos} {K:PySem.W.Frag} {p:aO} {σ:St} {F H:Hp}
theorem Xj {vs:List V} {ds:List D} (h:F x=some (.lst vs)) (r:aN K F ds vs):JQ K (Itv K x vs.length) ds.length (λi=>ds.getD (ds.length - 1 - i) .non) F:=by
 have sq:∀{z H:Hp},aP z H->aP F z->iV K H x vs:=λn s=>.of (n _ _ (s _ _ h))
 have B:=r.length
 refine ⟨λi z H n s hi=>?_,λi z H v H' n s hi y=>?_,λz H n s=>?_⟩
 ·obtain ⟨v,e1,_⟩:=r.get (getD_some (show ds.length - 1 - i<ds.length by omega))
  exact ⟨vs,v,sq n s,rfl,by omega,by rw [<-B];exact e1⟩
 ·obtain ⟨e1,e2⟩:=y
  subst e1
  obtain ⟨w,e3,I⟩:=r.get (getD_some (show ds.length - 1 - i<ds.length by omega))
  have:=e2 vs (sq n s)
  rw [<-B,e3] at this;cases this
  exact .inl ⟨rfl,I.mono s⟩
 ·show vs.length=ds.length
  omega
def iqV (n:TAQ):uP:=λp Q=>n p λes p1=>∃e ds,es=[e]/\e=.fz (.lst ds)/\Q ds.length (λi=>ds.getD (ds.length - 1 - i) .non) p1
theorem Ux (hK:X.K=C.K) (Z:Gl X "reversed") (Y:X.mg "reversed"=none) (ha:PA X [a] (gJ C cI)) (U:starEach [a] X.env=[(false,eval a X.env)]:=by rfl):PI X tg (.Call (.Name "reversed" ps) [a] [] pos) (vh C (iqV cI)):=
 QI.mk (Rj hK Z Y ha U) λp σ F H R J O=>dR J O λes1 p1 D F1 H1 n I sh z B=>by
  obtain ⟨e1,ds,h0,h1,q⟩:=B
  obtain ⟨v,rfl,er⟩:=qO z h0
  subst h1
  cases er with
  | lst q1 r1=>exact ⟨_,_,rfl,.of (n.sub _ _ q1),_,_,p1,F1,n,I,sh,Xj q1 r1,q⟩
def tK (k:Key) (ks:List Key):Bool:=ks.any λx=>decide (x=k)
theorem tM {k:Key}:tK k ks=true ↔ k∈ks:=by
 unfold tK
 rw [List.any_eq_true]
 constructor
 ·rintro ⟨x,h1,h2⟩;have:=yG h2;subst this;exact h1
 ·intro h;exact ⟨k,h,zZ rfl⟩
theorem tQ {k:Key}:∀{ks:List Key} {vs:List V},ks.length=vs.length->(jL (ks.zip vs) k).isSome=tK k ks
 | [],[],_=>by simp [KC,tK]
 | x::ks,v::vs,h=>by
  have n:=tQ (k:=k) (ks:=ks) (vs:=vs) (by simpa using h)
  rw [List.zip_cons_cons]
  unfold tK at n ⊢
  rw [List.any_cons]
  by_cases e:x=k
  ·rw [nJ (p:=(x,v)) e,zZ e];rfl
  ·rw [nM (p:=(x,v)) e,n,zO e,Bool.false_or]
 | [],_::_,h=>by simp at h
 | _::_,[],h=>by simp at h
def wQ (f:Bool->Bool) (B z:TQ):TQ:=λp Q=>B p λe1 p1=>z p1 λe2 p2=>∃i n ds,lk p2 e1=.int i/\lk p2 e2=.lK n ds/\Q (.fz (.bl (f (tK (Sum.inl i) n)))) p2
theorem GR {R:Ev->aO->Prop} {G:V->Hp->Prop} (rs:RS C p σ F H) (U:ta p λe1 p1=>tb p1 λe2 p2=>∃i B ds,lk p2 e1=.int i/\lk p2 e2=.lK B ds/\R (.fz (.bl (tK (Sum.inl i) B))) p2)
  (k:∀(b:Bool) p1 z H1,RS C p1 σ z H1->aP F z->jM p p1->R (.fz (.bl b)) p1->G (.bl b) H1):Z_ (Up C ta) (Up C tb) σ H G:=
 sV rs U λe1 e2 p1 v1 v2 z H1 n O sh I D J=>by
  obtain ⟨i,B,ds,h1,h2,q⟩:=J
  obtain ⟨a1,vs,rfl,g,l,r⟩:=wB n D h2
  rw [aY I h1]
  refine ⟨a1,_,rfl,DR.k (k:=Sum.inl i) g,?_⟩
  rw [tQ l]
  exact k _ p1 z H1 n O sh q
theorem acn (U:X.A.units+64<cLine) (O:PE X a (Up C ta)) (J:PE X b (Up C tb)) (I:behindInMarks .In b=false:=by rfl):PE X (.Compare a [.In] [b] pos) (Up C (wQ (λk=>k) ta tb)):=
 QE.mk (Vu (KJ (by omega) O J) I) λp σ F H R B D=>GR B D λb p1 Y H1 n z sh q=>aZ n z sh (.bl _) q
theorem RN (hu:X.A.units+64<cLine) (Y:PE X a (Up C ta)) (U:PE X b (Up C tb)) (J:behindInMarks .In b=false:=by rfl):PT X (.Compare a [.In] [b] pos) (gf C (gh (wQ (λk=>k) ta tb))):=
 QT.mk (Dl (KJ (by omega) Y U) J) λp σ F H R D I=>GR (R:=λe p1=>∃b,lk p1 e=.bl b/\R b p1) D I λb p1 Z H1 n B sh z=>by obtain ⟨k,O,q⟩:=z;exact ⟨k,by cases O;rfl,p1,Z,n,B,sh,q⟩
theorem Mx {k:Key} {ks:List Key} {vs:List V} (l:ks.length=vs.length) (h:k ∉ ks):putK (ks.zip vs) k v=(ks++[k]).zip (vs++[v]):=by
 rw [KD,List.zip_append l]
 ·rfl
 ·have:=tQ (k:=k) l
  have hf:tK k ks=false:=by
   cases z:tK k ks with
   | false=>rfl
   | true=>exact absurd (tM.mp z) h
  rw [hf] at this
  cases q:jL (ks.zip vs) k with
  | none=>rfl
  | some x=>rw [q] at this;cases this
abbrev adU (I B:TQ) (b:List Key × List D) (p:aO) (Q:List Key × List D->aO->Prop):Prop:=I p λe J=>B J λO z=>∃(y:D) (n:Int),lk z e=.int n/\O=.fz y/\Sum.inl n ∉ b.1/\Q (b.1++[Sum.inl n],b.2++[y]) z
def Mz (i k:Nat) (ti:uP) (g:sX) (z:m8) (B n:TQ):jH:=λE p=>wL ([],[]) (λb=>b.1.length) (adU B n) k ti g z p λb p1=>lM p1 i=true/\E.nx (p1.set i (some (.d (.lK b.1 b.2))))
theorem RP {k:Nat} {n:Expr} (hN:X.N.Nodup) (hi':X.N[i]? = some x) (hx:Loc X.env.scope x) (S:aU X scope N k) (hc:X.calm=true) (hi:PI X tg n (vh C ti))
  (hg:∀Z s H fp,PG (bz X scope N Z s H fp) tg (nQ (C.sh k) k g)) (ht:∀Z s H fp,v9 (bz X scope N Z s H fp) ifs (gf (C.sh k) tt)) (hk:∀Z s H fp,PE (bz X scope N Z s H fp) kx (Up (C.sh k) tk)) (hv:∀Z s H fp,PE (bz X scope N Z s H fp) vx (Up (C.sh k) tv))
  (hsw:swapsWith (.DictComp kx vx [⟨tg,n,ifs,0⟩] scope pos2) (some (.Name x pos')) pos.line X.env=pure true:=by rfl)
  (hs:∀x,foldedSetIterable n X.env x=pure x:=by intro _;rfl) (hf:X.fn x=true\/X.env.scope.names.lookup x=some .local:=by first|exact .inl rfl|exact .inr rfl|assumption) :
  PS X (.Assign [.Name x pos'] (.DictComp kx vx [⟨tg,n,ifs,0⟩] scope pos2) pos) (iU C (Mz i k ti g tt tk tv)):=
 QS.mk (Bp hN hi' hx S hc hi hg ht hk hv hsw hs hf) λp σ F H E rs ht=>show pq HO.dK List.length [] (Wk (Up (C.sh k) tk) (Up (C.sh k) tv)) k _ _ _ σ H (λv H1=>(E.dn C F).nx (σ.set i (some v)) H1) from vm (λF (b:List Key × List D) (a:List (Key × V))=>∃vs,a=b.1.zip vs/\b.1.length=vs.length/\aN C.K F b.2 vs) (λs r=>by obtain ⟨vs,h1,h2,h3⟩:=r;exact ⟨vs,h1,h2,h3.mono s⟩) (λ_=>⟨[],rfl,rfl,.nil⟩)
  (λr=>by obtain ⟨vs,rfl,h2,_⟩:=r;rw [List.length_zip,<-h2,Nat.min_self]) (λrs I q k=>up1 rs q λe6 p6 v6 F6 H6 rs6 s6 U er6 q6=>up1 rs6 q6 λe7 p7 v7 F7 H7 rs7 Y B er7 zq=>by
   obtain ⟨z,kk,hkk,hz,O,q7⟩:=zq
   subst hz
   obtain ⟨vs,rfl,l,I⟩:=I
   exact ⟨Sum.inl kk,aY (er6.mono Y B) hkk,k _ _ p7 F7 H7 rs7 (s6.trans Y) (U.trans B) ⟨vs++[v7],Mx l O,by rw [zj,zj,l];rfl,(I.mono (s6.trans Y)).append (.cons er7 .nil)⟩ q7⟩) rs ht λA p1 F1 H1 zs ws J s1 sh hA r q=>by
   obtain ⟨vs,rfl,l,I⟩:=r
   obtain ⟨z1,_⟩:=J.free hA
   exact ⟨_,_,(J.put (a:=A) (o:=.dK (zs.1.zip vs)) hA).uN q.1 (.lK aL l (I.mono (bY z1 _))),s1.trans (bY z1 _),q.2⟩
end
end L2
namespace L2
open PySem
theorem aav {a:Sl} {P:Sl->Prop}:(∃s,some (some a)=some (some s)/\P s)=P a:=propext ⟨λn=>by obtain ⟨s,e,h⟩:=n;cases e;exact h,λh=>⟨a,rfl,h⟩⟩
theorem Xk {a:Int} {P:Int->Prop}:(∃i,D.int a=D.int i/\P i)=P a:=propext ⟨λn=>by obtain ⟨s,e,h⟩:=n;cases e;exact h,λh=>⟨a,rfl,h⟩⟩
theorem RQ {a b:Int} {P:Int->Int->Prop}:(∃i j,D.int a=D.int i/\D.int b=D.int j/\P i j)=P a b:=propext ⟨λn=>by obtain ⟨s,t,e,z,h⟩:=n;cases e;cases z;exact h,λh=>⟨a,b,rfl,rfl,h⟩⟩
theorem aaw {a:Bool} {P:Bool->Prop}:(∃i,D.bl a=D.bl i/\P i)=P a:=propext ⟨λn=>by obtain ⟨s,e,h⟩:=n;cases e;exact h,λh=>⟨a,rfl,h⟩⟩
theorem aax {a:D} {P:D->Prop}:(∃i,Ev.fz a=Ev.fz i/\P i)=P a:=propext ⟨λn=>by obtain ⟨s,e,h⟩:=n;cases e;exact h,λh=>⟨a,rfl,h⟩⟩
theorem Xl {a:List D} {P:List D->Prop}:(∃i,Ev.fz (D.lst a)=Ev.fz (D.lst i)/\P i)=P a:=propext ⟨λn=>by obtain ⟨s,e,h⟩:=n;cases e;exact h,λh=>⟨a,rfl,h⟩⟩
theorem RT {α:Type} {a:α} {P:α->Prop}:(∃i,some a=some i/\P i)=P a:=propext ⟨λn=>by obtain ⟨s,e,h⟩:=n;cases e;exact h,λh=>⟨a,rfl,h⟩⟩
theorem Xm {a:List D} {P:List D->Prop}:(∃i,D.lst a=D.lst i/\P i)=P a:=propext ⟨λn=>by obtain ⟨s,e,h⟩:=n;cases e;exact h,λh=>⟨a,rfl,h⟩⟩
theorem Xn {a:List D} {P:List D->Prop}:(∃i,some (some (Sl.own a))=some (some (Sl.own i))/\P i)=P a:=propext ⟨λn=>by obtain ⟨s,e,h⟩:=n;cases e;exact h,λh=>⟨a,rfl,h⟩⟩
theorem Xo {a:List D} {P:List D->Prop}:(∃i,D.tup a=D.tup i/\P i)=P a:=propext ⟨λn=>by obtain ⟨s,e,h⟩:=n;cases e;exact h,λh=>⟨a,rfl,h⟩⟩
theorem aay {α:Sort _} {a:Ev} {P:Ev->α->Prop}:(∃e x,[a]=[e]/\P e x)=∃x,P a x:=propext ⟨λn=>by obtain ⟨s,x,e,h⟩:=n;cases e;exact ⟨x,h⟩,λ⟨x,h⟩=>⟨a,x,rfl,h⟩⟩
theorem Xp {α:Type} {P:Prop}:(a=a/\P)=P:=by simp
end L2
namespace L2
open PySem PySem.Spec PyProof.Rows
section
variable {X:Cx} {C:Pc} {a b c e o:Expr} {ta tb to:TQ} {cI:TAQ} {pos ps ps2 apos:Pos} {K:PySem.W.Frag} {F:Hp} {tg:Expr}
theorem aN.strs:∀{ts:List Str} {vs:List V},aN K F (ts.map D.str) vs->vs=ts.map V.str
 | [],_,.nil=>rfl
 | _::r,_,.cons q t=>by
  cases q
  rw [yb,aN.strs (ts:=r) t]
theorem aN.GZ:∀(ts:List Str),aN K F (ts.map D.str) (ts.map V.str)
 | []=>.nil
 | t::r=>.cons (.str t) (aN.GZ r)
def MF (n:TAQ):TQ:=λp Q=>n p λes p1=>∃e i,es=[e]/\lk p1 e=.int i/\i.natAbs.log2<1920/\Q (.fz (.str (toString i))) p1
theorem fY (Y:Gl X "str") (U:X.mg "str"=none) (Z:PA X [e] (gJ C cI)) (he:starEach [e] X.env=(false,eval e X.env)::starEach [] X.env:=by rfl):PE X (.Call (.Name "str" ps) [e] [] pos) (Up C (MF cI)):=
 QE.mk (o8 vV Y U (by kernel_rfl) Z (he:=he)) λp σ F H R J O=>dR J O λes1 p1 D F1 H1 n I sh z B=>by
  obtain ⟨e1,i,h1,h2,h3,q⟩:=B
  obtain ⟨v,rfl,er⟩:=qO z h1
  exact ⟨i,by rw [aY er h2],h3,aZ n I sh (.str _) q⟩
def MJ (n:TAQ):TQ:=λp Q=>n p λes p1=>∃e z,es=[e]/\lk p1 e=.str z/\z.length<=100000/\Q (.fz (.int z.length)) p1
theorem rF (Z:Gl X "len") (Y:X.mg "len"=none) (ha:PA X [e] (gJ C cI)) (he:starEach [e] X.env=(false,eval e X.env)::starEach [] X.env:=by rfl):PE X (.Call (.Name "len" ps) [e] [] pos) (Up C (MJ cI)):=
 QE.mk (eY v8 Z Y PySem.boot_len ha (he:=he)) λp σ F H R O U=>dR O U λes1 p1 I F1 H1 n J sh B D=>by
  obtain ⟨e1,z,h1,h2,h3,q⟩:=D
  obtain ⟨v,rfl,er⟩:=qO B h1
  exact ⟨z,by rw [bI er h2],h_ h3,aZ n J sh (.int _) q⟩
def Xq (x y:Str):Bool:=!(Builtin.Str.occurrences y x 0 y.length 1).isEmpty
def RV (f:Bool->Bool) (z n:TQ):TQ:=λp Q=>z p λe1 p1=>n p1 λe2 p2=>∃x y,lk p2 e1=.str x/\lk p2 e2=.str y/\Q (.fz (.bl (f (Xq x y)))) p2
theorem MK (ha:PE X a (Up C ta)) (Z:PE X b (Up C tb)) (U:behindInMarks .NotIn b=false:=by rfl):PT X (.Compare a [.NotIn] [b] pos) (gf C (gh (RV (λk=>!k) ta tb))):=
 QT.mk (gD vZ ha Z U) λp σ F H R J O=>sV J O λe1 e2 p1 v1 v2 F1 H1 n I sh B z D=>by obtain ⟨x,y,h1,h2,k,Y,q⟩:=D;exact ⟨x,y,bI B h1,bI z h2,k,by cases Y;rfl,p1,F1,n,I,sh,q⟩
def Xr (B n:TQ):TQ:=λp Q=>B p λe1 p1=>n p1 λe2 p2=>∃z k c,lk p2 e1=.str z/\lk p2 e2=.int k/\z.length<=100000/\gA z.cps.toList k=some c/\Q (.fz (.str ⟨#[c]⟩)) p2
theorem MN (ha:PE X a (Up C ta)) (Z:PE X b (Up C tb)) (Y:nG b):PE X (.Subscript a b pos) (Up C (Xr ta tb)):=
 QE.mk (Kf V_ ha Z Y) λp σ F H R O U=>sV O U λe1 e2 p1 v1 v2 F1 H1 n J sh D B I=>by
  obtain ⟨z,k,c,h1,h2,h3,h4,q⟩:=I
  rw [bI D h1,aY B h2]
  exact ⟨z,k,c,rfl,rfl,h_ h3,h4,aZ n J sh (.str _) q⟩
def MP (n:TQ) (B:TAQ):TQ:=λp Q=>n p λe1 p1=>(∃z,lk p1 e1=.str z)/\B p1 λes p2=>∃(e2:Ev) (z:Str) (ts:List Str),es=[e2]/\lk p2 e1=.str z/\lk p2 e2=.lst (ts.map D.str)/\JoinOk z ts=true/\Q (.fz (.str (Txt.join z ts))) p2
theorem MT (hK:X.K=C.K) (ho:PE X o (Up C to)) (ha:PA X [e] (gJ C cI))
  (B:attributeBase o "join" X.env (eval o X.env)=eval o X.env:=by rfl)
  (O:((backTo pos (starEach [e] X.env)).all (λx=>!x.1) && (backToKw pos (keywordEach [] X.env)).all (λx=>x.1.isSome)
   && decide ([e].length+([]:List Keyword).length+(if ([]:List Keyword).isEmpty then 0 else 1)<30))=true:=by rfl)
  (n:(apos.endLine == pos.line)=true:=by rfl) (hs:starEach [e] X.env=(false,eval e X.env)::starEach [] X.env:=by rfl):PE X (.Call (.Attribute o "join" apos) [e] [] pos) (Up C (MP to cI)):=by
 refine QE.mk (Gk PySem.F.plainAttrs_str PySem.F.slot_str_join PySem.F.type_str_join (KR hK) ho ha B O n hs rfl) λp σ F H R rs Z=>?_
 rw [hK]
 refine up1 rs Z λe1 p1 v1 F1 H1 Y s1 sh D U=>?_
 obtain ⟨⟨z,hz⟩,Z⟩:=U
 rw [bI D hz]
 refine ⟨rfl,dR Y Z λes2 p2 vs2 F2 H2 J s2 I BJ U=>?_⟩
 obtain ⟨e2,z',ts,h2,h3,h4,ok,q⟩:=U
 obtain ⟨v,rfl,er⟩:=qO BJ h2
 obtain ⟨a1,vs,rfl,g,r⟩:=iD J er h4
 rw [r.strs] at g
 have e3:=bI (D.mono s2 I) h3
 rw [bI D hz] at e3
 cases e3
 exact ⟨z,a1,ts,rfl,rfl,.of g,ok,aZ J (s1.trans s2) (sh.trans I) (.str _) q⟩
def Er (n:TQ) (B:TAQ):TN:=λp Q=>n p λe1 p1=>(∃z,lk p1 e1=.str z)/\B p1 λes p2=>∃(e2:Ev) (z y:Str),es=[e2]/\lk p2 e1=.str z/\lk p2 e2=.str y/\(y.length == 0)=false/\z.length<=100000/\(Txt.split z y).length<=100000/\Q (.ro ((Txt.split z y).map D.str)) p2
theorem wR (hK:X.K=C.K) (ho:PE X o (Up C to)) (ha:PA X [e] (gJ C cI))
  (B:attributeBase o "split" X.env (eval o X.env)=eval o X.env:=by rfl)
  (J:((backTo pos (starEach [e] X.env)).all (λx=>!x.1) && (backToKw pos (keywordEach [] X.env)).all (λx=>x.1.isSome)
   && decide ([e].length+([]:List Keyword).length+(if ([]:List Keyword).isEmpty then 0 else 1)<30))=true:=by rfl)
  (n:(apos.endLine == pos.line)=true:=by rfl) (hs:starEach [e] X.env=(false,eval e X.env)::starEach [] X.env:=by rfl):PE X (.Call (.Attribute o "split" apos) [e] [] pos) (m9 C (Er to cI)):=by
 refine QN.mk (Gk PySem.F.plainAttrs_str PySem.F.slot_str_split PySem.F.type_str_split KY ho ha B J n hs rfl) λp σ F H R rs Z=>?_
 rw [hK]
 refine up1 rs Z λe1 p1 v1 F1 H1 Y s1 sh D O=>?_
 obtain ⟨⟨z,hz⟩,Z⟩:=O
 rw [bI D hz]
 refine ⟨rfl,dR Y Z λes2 p2 vs2 F2 H2 U s2 I BJ O=>?_⟩
 obtain ⟨e2,z',y,h2,h3,h4,k1,k2,k3,q⟩:=O
 obtain ⟨v,rfl,er⟩:=qO BJ h2
 have e3:=bI (D.mono s2 I) h3
 rw [bI D hz] at e3
 cases e3
 exact ⟨z,y,rfl,by rw [bI er h4],k1,k2,k3,λl hl=>ig U (s1.trans s2) (sh.trans I) hl (aN.GZ _) q⟩
def iqS (n:TQ):uP:=λp Q=>n p λe p1=>∃x:Str,lk p1 e=.str x/\x.cps.all (·<128)=true/\Q x.cps.size (λi=>.str ⟨#[x.cps.getD i 0]⟩) p1
theorem Xu (x:Str):JQ K (Its x) x.cps.size (λi=>.str ⟨#[x.cps.getD i 0]⟩) F:=⟨λi F H _ _ h=>h,λi F H v H' _ _ hi n=>by
 obtain ⟨h1,c,h2,h3⟩:=n
 subst h1 h3
 have e:x.cps.getD i 0=c:=by rw [Array.getD_eq_getD_getElem?,h2];rfl
 exact .inl ⟨rfl,by rw [e];exact .str _⟩,λ_ _ _ _=>zx _⟩
theorem Uy (O:PE X a (Up C ta)):PI X tg a (vh C (iqS ta)):=
 QI.mk (Wo O) λp σ F H R I J=>up1 I J λe1 p1 v1 U H1 n D sh z B=>by obtain ⟨x,h1,h2,q⟩:=B;exact ⟨x,bI z h1,h2,_,_,p1,U,n,D,sh,Xu x,q⟩
end
abbrev Je:=List Sl->Addr->Prop
def spX (K:PySem.W.Frag) (S:Je):Sp:=λvs H _ E=>∃as F n,aP F H/\BP K F H as vs/\S as n/\∀z H',Post K F H as vs (.rd .non) as .non z H'->E (.ref n) none H'
def GX (C:Pc) (n:Addr->aO->Prop):Addr->St->Hp->Prop:=λz σ H=>∃p F,RS C p σ F H/\n z p
def Pc.at (C:Pc) (F0:Hp):Pc:={ C with F0:=F0 }
section
variable {X:Cx} {C:Pc} {a b c e:Expr} {ta tb:TQ} {pos np cpos p0:Pos} {p:aO} {σ:St} {F H:Hp} {st:Stmt} {rest:List Stmt} {es:List Expr} {cI:TAQ} {XE:Addr->aO->Prop} {x:Str} {t:jH}
theorem RS.at (rs:RS C p σ F H):RS (C.at F) p σ F H:=⟨rs.sub,.refl _,λ_ _ h=>.inl h,rs.keep,rs.grow,rs.len,λi s h=>rs.sl i s h,rs.apart,rs.pin⟩
theorem RS.BZ {B:aO} (rs:RS C p σ F H) (n:RS (C.at F) B σ' F' H'):RS C B σ' F' H'/\aP F F':=
 ⟨⟨n.sub,rs.ext.trans n.ext,λa o h=>by
   rcases n.new a o h with z|z|z
   ·exact rs.new a o z
   ·exact .inr (.inl z)
   ·exact .inr (.inr z),n.keep,n.grow,n.len,λi s h=>n.sl i s h,n.apart,n.pin⟩,n.ext⟩
def Es (S:Je) (z:Addr->aO->Prop) (t:TAQ):TN:=λp _=>t p λes p1=>∃as n,d_ p1 es=some as/\(fP es).Nodup/\S as n/\z n (back p1 es as)
theorem kI {k:Nat} (hK:X.K=C.K) (D:aM X.K X.mg x st ps) (G:bV X.prog X.w X.K X.mg X.base (oY X.prog X.w) k D.f D.fd ps (spX X.K S)) (Z:bO k X.A) (lk:pD X (GX C XE)) (ha:PA X (e::es) (gJ C cI))
  (hg:Gl X x:=by rfl) (B:(x == ("__debug__":Str))=false:=by decide) (he:starEach (e::es) X.env=(false,eval e X.env)::starEach es X.env:=by rfl) (hpl:(backTo pos (starEach es X.env)).any (·.1)=false:=by rfl) :
  PE X (.Call (.Name x p0) (e::es) [] pos) (m9 C (Es S XE cI)):=
 QN.mk (K1 D G Z lk ha hg B he hpl) λp σ F H R U Y=>dR U Y λes1 p1 O F1 H1 n s1 sh z J=>by
  obtain ⟨as,I,h1,nd,hS,q⟩:=J
  rw [hK]
  exact ⟨as,F1,I,n.sub,(iu n z h1 nd).1,hS,λF' H' po=>⟨I,rfl,_,F',(n.call z h1 nd po).1,q⟩⟩
def Et (n:Addr->aO->Prop) (z:Addr) (t:TAQ):jH:=λ_ p=>t p λes p1=>es.length<=9/\n z p1
theorem wU {D:Addr} (c:oZ X.K X.mg x D) (Z:X.calm=true) (lk:wj X (GX C XE)) (ha:PA X (e::es) (gJ C cI))
  (Y:Gl X x:=by rfl) (z:(x == ("__debug__":Str))=false:=by decide) (he:starEach (e::es) X.env=(false,eval e X.env)::starEach es X.env:=by rfl) (hpl:(backTo cpos (starEach es X.env)).any (·.1)=false:=by rfl) :
  PS X (.Raise (some (.Call (.Name x np) (e::es) [] cpos)) none pos) (iU C (Et XE D cI)):=
 QS.mk (K3 c Z lk ha Y z he hpl) λp σ F H E J O=>dR J O λes1 p1 I F1 H1 n s1 sh B ⟨U,q⟩=>⟨by
  rw [<-(rD B).1];exact zY U (by decide),_,F1,n,q⟩
def Xv (t:jH):jH:=λE p=>t { E with nx:=λ_=>False } p
theorem vq (h1:PS X st (iU C t)):gw X (st::rest) (iU C (Xv t)):=λpins s σ H U I B=>by
 obtain ⟨p,F,E,D,J,l⟩:=B
 refine wpAny_execs_cons (bu (h1 pins s σ H _ I ⟨p,F,{ E with nx:=λ_=>False },D,J,Ends.Le.refl _⟩) λf O q=>?_)
 cases f with
 | next=>obtain ⟨_,_,_,_,_,_,_,z⟩:=q;exact z.elim
 | ret u=>obtain ⟨v,σ',H',n,r,q⟩:=q;exact ⟨v,σ',H',n,r,l.rt _ _ q⟩
 | brk=>obtain ⟨σ',H',n,q⟩:=q;exact ⟨σ',H',n,l.bk _ _ q⟩
 | cont=>obtain ⟨σ',H',n,q⟩:=q;exact ⟨σ',H',n,l.ct _ _ q⟩
def gR.goes (E:gR) (i:Nat):gR:=⟨λp=>lM p i=true/\E.nx (p.set i none),λr p=>E.rt r p,λp=>lM p i=true/\E.bk (p.set i none),λp=>lM p i=true/\E.ct (p.set i none)⟩
def Xw (K:PySem.W.Frag) (D i:Nat) (z:(Addr->aO->Prop)->jH) (th:jH):jH:=λE p=>
 z (λn p1=>PySem.W.subIn K (.ref n) (.ref D)=some true/\lM p1 i=true/\th (E.goes i) (p1.set i (some (.d (.exc n))))) E p
theorem RS.gone (rs:RS C p σ F H) (h:lM p i=true):RS C (p.set i none) (σ.set i none) F H:=by
 have n:=rs.clear h
 have B:∀(j:Nat) (s:Sl),(p.set i none)[j]? = some (some s)->j≠i:=λj s e z=>by
  subst z
  by_cases Z:j<p.length
  ·rw [zF Z] at e;cases e
  ·rw [List.getElem?_eq_none (by rw [zR];omega)] at e;cases e
 refine ⟨n.sub,n.ext,n.new,n.keep,n.grow,by rw [n.len,zR],λj s e=>?_,λj k s s' a D e1 U e2 O J I=>?_,λq Y=>?_⟩
 ·obtain ⟨v,h1,h2⟩:=n.sl j s e
  exact ⟨v,by rw [zi (Ne.symm (B j s e))];exact h1,h2⟩
 ·rw [zi (Ne.symm (B j s e1))] at J
  rw [zi (Ne.symm (B k s' e2))] at I
  exact n.apart j k s s' a D e1 U e2 O J I
 ·obtain ⟨h1,xs,h2⟩:=n.pin q Y
  exact ⟨by rw [zi (Ne.symm (B q.1 _ h2))];exact h1,xs,h2⟩
theorem aaA {suite:List Stmt} {D:Addr} {tb:(Addr->aO->Prop)->jH} (c:oZ X.K X.mg x D) (hN:X.N.Nodup) (hi:X.N[i]? = some n) (hn:X.env.scope.names.lookup n=some .local)
  (hb:∀(F0:Hp) (pins:List (Addr × Obj)) (E:Value->Shared->Prop) (XE:Addr->aO->Prop),pD (X.held pins E) (GX (C.at F0) XE)->gw (X.held pins E) body (iU (C.at F0) (tb XE)))
  (hh:∀(F0:Hp) (pins:List (Addr × Obj)) (A:Around),gw (X.suite pins A) (b₀::suite) (iU (C.at F0) th))
  (hg:Gl X x:=by rfl) (hdb:(x == ("__debug__":Str))=false:=by decide) (hs:X.stack=X.env::X.outer:=by rfl) (hL:X.env.frame=some X.env.locals:=by rfl) (hx:X.ex=[]:=by rfl) :
  PS X (.Try body [.ExceptHandler (some (.Name x np)) (some n) (b₀::suite) hpos] [] [] pos) (iU C (Xw X.K D i tb th)):=by
 intro pins s σ H De I ⟨p,F,E,Y,ht,l⟩
 refine bu (La (D:=E.dn C F) (G:=GX (C.at F) λCl p1=>PySem.W.subIn X.K (.ref Cl) (.ref D)=some true/\lM p1 i=true/\th (E.goes i) (p1.set i (some (.d (.exc Cl))))) c hN hi hn hs hL hx I (λE' lk=>⟨_,hb F pins E' _ lk,p,F,E,Y.at,ht,?_⟩) (λCa σ' H' ⟨p',F',Z,hsub,hbr,hth⟩=>⟨hsub,λa ha=>⟨_,hh F pins _,p'.set i (some (.d (.exc Ca))),upd F' a (XO a Ca),E.goes i,?_,hth,?_⟩⟩) hg hdb) λ_ _ q=>q.le l
 ·exact ⟨λB H1 J=>by obtain ⟨p1,F1,U,O,q1⟩:=J;exact ⟨p1,F1,(Y.BZ U).1,O,q1⟩,λv H1 J=>by obtain ⟨r,p1,B,F1,U,O,rr,q1⟩:=J;exact ⟨r,p1,B,F1,(Y.BZ U).1,O,by cases r<;>exact rr,q1⟩,λB H1 J=>by obtain ⟨p1,F1,U,O,q1⟩:=J;exact ⟨p1,F1,(Y.BZ U).1,O,q1⟩,λB H1 J=>by obtain ⟨p1,F1,U,O,q1⟩:=J;exact ⟨p1,F1,(Y.BZ U).1,O,q1⟩⟩
 ·exact (Z.put ha).uN hbr (.exc aL)
 ·have sF:∀{F1:Hp},aP (upd F' a (XO a Ca)) F1->aP F F1:=λ{F1} z=>Z.ext.trans ((bY (Z.free ha).1 _).trans z)
  refine ⟨λB H1 J=>by obtain ⟨p1,F1,U,O,nb,q1⟩:=J;exact ⟨_,F1,(Y.BZ U).1.gone nb,sF O,q1⟩,λv H1 J=>by obtain ⟨r,p1,B,F1,U,O,rr,q1⟩:=J;exact ⟨r,p1,B,F1,(Y.BZ U).1,sF O,by cases r<;>exact rr,q1⟩,λB H1 J=>by obtain ⟨p1,F1,U,O,nb,q1⟩:=J;exact ⟨_,F1,(Y.BZ U).1.gone nb,sF O,q1⟩,λB H1 J=>by obtain ⟨p1,F1,U,O,nb,q1⟩:=J;exact ⟨_,F1,(Y.BZ U).1.gone nb,sF O,q1⟩⟩
end
def aaB (L:Addr) (h₀:Heap) (n:Hp) (a C:Addr) (h:Heap):Prop:=
 n a=none/\h₀.get? a=none/\∃oe vs T oT ts,h.get? a=some oe/\oe.cls=.ref C/\oe.data=.fields vs/\vs[1]? = some (.ref T)/\T≠a/\h₀.get? T=none/\n T=none/\h.get? T=some oT/\oT.data=.fields ts/\ts[3]? = some (rawInt L)
def Xx (X:Cx) (C:Pc) (n:Addr->aO->Prop):Prop:=∀(pins:List (Addr × Obj)) (σ σ':St) (H' F:Hp) (s':Shared) (a Cl L:Addr) (p:aO),X.env.frame=some L->Inv X pins σ H' s'->aaB L X.s₀.heap H' a Cl s'.heap->RS C p σ' F H'->n Cl p->X.xe (.ref a) s'
theorem tR {h:Heap} {z:Obj} (hT:h.get? T=some z) (hd:z.data=.fields ts) (h3:ts[3]? = some y) :
  ∃o' n,(h.update T (Obj.mapFields (·.setIfInBounds 3 x))).get? T=some o'/\o'.data=.fields n/\n[3]? = some x:=by
 have B:=(yr.mp h3).1
 refine ⟨_,_,Heap.get?_update_self (Obj.mapFields (·.setIfInBounds 3 x)) hT (Obj.isFreed_of_fields (xc hd _)),xc hd _,by simp [Array.getElem?_setIfInBounds,B]⟩
section
variable {P:Program} {w:World} {K:PySem.W.Frag} {mg:Str->Option Value} {base:Heap} {N:List Str} {qual:Str} {scope:Scope} {f:Addr} {cd:Value} {A:Around} {outer:List Env} {s₀:Shared} {H₀:Hp} {E₀:XK}
theorem B_ {B:List (Addr × Obj)} {σ:St} {U:Hp} {s':Shared} {a C L:Addr} (hL:(fM (oY P w) P w K mg base N qual scope f cd A outer s₀ H₀ E₀).env.frame=some L)
  (I:Inv (fM (oY P w) P w K mg base N qual scope f cd A outer s₀ H₀ E₀) B σ U s') (t:aaB L s₀.heap U a C s'.heap) (q:E₀ (.ref C) none U):(fM (oY P w) P w K mg base N qual scope f cd A outer s₀ H₀ E₀).xe (.ref a) s':=by
 obtain ⟨t0,t1,oe,vs,T,oT,ts,a1,a2,a3,a4,a5,a6,a7,O,J,n⟩:=t
 have hz:=(yr.mp n).1
 show wpAny _ _ (leaving _ _) _ _ s'
 unfold leaving
 refine zd (wpAny_noteFrame_inFlight hL a1 a3 a4 O J n (wpAny_setFlight_none a1 a3 a4 O J hz ?_))
 have Z:∀b,b≠T->(s'.heap.update T (Obj.mapFields (·.setIfInBounds 3 Value.none))).get? b=s'.heap.get? b:=λb D=>yN _ _ (Ne.symm D)
 have nT:T ∉ frs (fM (oY P w) P w K mg base N qual scope f cd A outer s₀ H₀ E₀).stack:=λz=>by
  obtain ⟨_,o',q',nf⟩:=I.stack.mem z
  rw [O] at q';cases q'
  exact nf _ J
 obtain ⟨un,hok⟩:=q_ (ex:=[T]) (h':=s'.heap.update T (Obj.mapFields (·.setIfInBounds 3 Value.none))) rfl rfl rfl I ⟨λb o e n1 _=>(Z b (λz=>n1 (by rw [z];exact List.mem_singleton_self _))).trans e,λb o e D=>⟨o.slots,(Z b (λz=>nT (z▸D))).trans e⟩⟩ (λb D=>by rw [zr.mp D];exact ⟨a6,a7⟩)
 obtain ⟨o',Y,c1,c2,c3⟩:=tR (x:=Value.none) O J n
 exact ⟨a,C,U,rfl,I.os,I.bare,un,hok,⟨t0,t1,oe,vs,T,o',Y,(Z a (Ne.symm a5)).trans a1,a2,a3,a4,a5,a6,a7,c1,c2,c3⟩,q⟩
end
abbrev XHp:=Hp->List Sl->Addr->Prop
def RW (K:PySem.W.Frag) (S:XHp):Sp:=λvs H _ E=>∃as F n,aP F H/\BP K F H as vs/\S H as n/\∀z H',Post K F H as vs (.rd .non) as .non z H'->E (.ref n) none H'
section
variable {P:Program} {w:World} {K:PySem.W.Frag} {mg:Str->Option Value} {base:Heap}
theorem uE.Xy {x B:Str} {st:Stmt} {f:Addr} {fd:FuncData} {N ps:List Str} {k:Nat} {S:XHp} (Fn:uE K x B st f fd) (Sc:ao N ps (aa st)) (len:∀H as O,S H as O->as.length=ps.length/\∀(i:Nat) (s:Sl),as[i]? = some s->∃d,s=.d d)
  (Z:∀(D:Value) (A:Around) (outer:List Env) (s:Shared) (H:Hp) (E:XK) (C:Pc) (as:List Sl) (O:Addr) (XE:Addr->aO->Prop),K=C.K->C.H0=H->C.bs=[]->bO k (A.deeper (envOfC B (aa st) s.heap.objs.size f D))->S H as O->(XE=λc _=>c=O)->
   pD (fM (oY P w) P w K mg base N B (aa st) f D A outer s H E) (GX C XE)->wj (fM (oY P w) P w K mg base N B (aa st) f D A outer s H E) (GX C XE)->Xx (fM (oY P w) P w K mg base N B (aa st) f D A outer s H E) C XE->
   ∃t,gw (fM (oY P w) P w K mg base N B (aa st) f D A outer s H E) (dG st) (iU C t)/\t { nx:=λ_=>False,rt:=λ_ _=>False } (bT N as)):bV P w K mg base (oY P w) (k+1) f fd ps (RW K S):=by
 obtain ⟨oc,od,kV,doc,pm,an,D,ct,osl,rfl,lk,hcd⟩:=Fn.ex
 refine Uo lk hcd Sc (λvs H Q E Y=>by obtain ⟨as,F,O,_,h2,h3,_⟩:=Y;rw [<-h2.len];exact (len _ as O h3).1) λA outer s H vs Q E hr Y=>?_
 obtain ⟨as,F,O,sFH,ar,hS,hq⟩:=Y
 have al:=(len _ as O hS).2
 have J:∀{p1:aO} {σ1:St} {F1 H1:Hp},RS ⟨K,F,H,[]⟩ p1 σ1 F1 H1->E (.ref O) none H1:=λ{p1 σ1 F1 H1} n=>by
  refine hq F1 H1 ⟨n.ext,n.sub,n.new,λa o h _=>n.keep a o h (λq hq=>by cases hq),n.grow,λi xs h=>?_,.non⟩
  obtain ⟨d,e⟩:=al i _ h
  cases e
 obtain ⟨t,ht,tq⟩:=Z D A outer s H E ⟨K,F,H,[]⟩ as O _ rfl rfl rfl hr hS rfl
  (λpins σ H1 s1 H' s' a C' I I' tr Y=>by obtain ⟨p1,F1,n,e⟩:=Y;subst e;exact D_ I I' tr (J n))
  (λpins σ H1 s1 s' a C' args I m e0 Y=>by obtain ⟨p1,F1,n,e⟩:=Y;subst e;exact Bs (t:=a) I m e0 (J n))
  (λpins σ σ' H' F1 s' a Cl' L p1 hL I tr n e=>by subst e;exact B_ hL I tr (J n))
 have U:∀(i:Nat) (s:Sl),(bT N as)[i]? = some (some s)->as[i]? = some s:=λi s h=>by
  unfold bT at h
  by_cases hi:i<as.length
  ·rw [zJ (by simpa using hi)] at h
   simpa using h
  ·rw [zS (by simpa using xz hi),zQ] at h
   split at h<;>cases h
 have rs:RS ⟨K,F,H,[]⟩ (bT N as) (start N vs) F H:=by
  refine ⟨sFH,.refl _,λa o h=>.inl h,λa o h _=>h,λa h=>h,?_,λi s h=>?_,λi j s s' a hij e1 m1 e2 m2 x1 x2=>?_,λq hq=>by cases hq⟩
  ·unfold bT start
   rw [zj,zj,z9,z9,zD,zD,ar.len]
  ·have h':=U i s h
   obtain ⟨v,h1,h2⟩:=ar.at_ i s h'
   obtain ⟨d,rfl⟩:=al i s h'
   refine ⟨v,?_,h2⟩
   unfold start
   have hi:=(zp.mp h1).1
   rw [zJ (by simpa using hi)]
   simpa using h1
  ·obtain ⟨d,rfl⟩:=al i s (U i s e1)
   cases m1
 exact ⟨_,ht,bT N as,F,_,rs,tq,⟨λ_ _ ⟨_,_,_,_,z⟩=>z.elim,λ_ _ ⟨_,_,_,_,_,_,_,z⟩=>z.elim,λ_ _ ⟨_,_,_,_,z⟩=>z.elim,λ_ _ ⟨_,_,_,_,z⟩=>z.elim⟩⟩
theorem uE.Zi {x n:Str} {st:Stmt} {f:Addr} {fd:FuncData} {N ps:List Str} {k:Nat} {S:Je} (Z:uE K x n st f fd) (Y:ao N ps (aa st)) (len:∀as D,S as D->as.length=ps.length/\∀(i:Nat) (s:Sl),as[i]? = some s->∃d,s=.d d)
  (B:∀(z:Value) (A:Around) (outer:List Env) (s:Shared) (H:Hp) (E:XK) (C:Pc) (as:List Sl) (D:Addr) (XE:Addr->aO->Prop),K=C.K->bO k (A.deeper (envOfC n (aa st) s.heap.objs.size f z))->S as D->(XE=λc _=>c=D)->
   pD (fM (oY P w) P w K mg base N n (aa st) f z A outer s H E) (GX C XE)->wj (fM (oY P w) P w K mg base N n (aa st) f z A outer s H E) (GX C XE)->
   ∃t,gw (fM (oY P w) P w K mg base N n (aa st) f z A outer s H E) (dG st) (iU C t)/\t { nx:=λ_=>False,rt:=λ_ _=>False } (bT N as)):bV P w K mg base (oY P w) (k+1) f fd ps (spX K S):=
 uE.Xy (S:=λ_=>S) Z Y (λ_=>len) λz A outer s H E C as D XE U _ _ J O hX lk I _=>B z A outer s H E C as D XE U J O hX lk I
end
section
variable {X:Cx} {C:Pc} {a b c e:Expr} {pos ps:Pos} {p:aO} {σ:St} {F H:Hp} {cI:TAQ}
def Cd (K:PySem.W.Frag) (y:V) (c:Value) (n:TAQ):TQ:=λp Q=>n p λes p1=>∃e f t k,es=[e,f]/\lk p1 f=.atom y/\tyD (lk p1 e)=some t/\xfD K (lk p1 e)/\PySem.W.kitOne K t c=some k/\Q (.fz (.bl k)) p1
theorem tU {c:Value} (hK:X.K=C.K) (hc:∀u,RelV y u->u=c) (hg:Gl X "isinstance") (hm:X.mg "isinstance"=none) (ha:PA X [a,b] (gJ C cI)) (he:starEach [a,b] X.env=(false,eval a X.env)::starEach [b] X.env:=by rfl) (hpl:(backTo pos (starEach [b] X.env)).any (·.1)=false:=by rfl) :
  PE X (.Call (.Name "isinstance" ps) [a,b] [] pos) (Up C (Cd C.K y c cI)):=
 QE.mk (eY (Bu hK) hg hm (by kernel_rfl) ha (he:=he) (hpl:=hpl)) λp σ F H R U Z=>dR U Z λes1 p1 J F1 H1 n O sh B I=>by
  obtain ⟨e1,e2,t,k,h0,h1,h2,Y,hk,q⟩:=I
  obtain ⟨v,z,rfl,er,D⟩:=uL B h0
  exact ⟨v,z,c,t,k,rfl,by rw [dI D h1];exact hc,Ej n er h2 Y,hk,aZ n O sh (.bl _) q⟩
def aaC (K:PySem.W.Frag):List V->Hp->VK->Prop:=λvs H Q=>∃(v:V) (n:Addr) (cs:List Addr) (t:Value) (k:Bool),vs=[v,.ref n]/\H n=some (.tup (cs.map V.ref))/\Zf K H v t/\PySem.W.kitAny K t (cs.map Value.ref)=some k/\Q (.bl k) H
theorem vz:∀{cs:List Addr} {n:List Value},Vals (cs.map V.ref) n->n=cs.map Value.ref
 | [],_,r=>by cases r;rfl
 | c::cs,_,r=>by
  cases r with
  | cons h t=>rw [yb,vz t,show _=Value.ref c from h]
theorem Jf (hK:X.K=C.K):g_ X (.builtin "isinstance") (aaC C.K):=λpins s σ H vs us Q I r U=>by
 obtain ⟨v,D,cs,t,k,e,J,ty,O,q⟩:=U
 subst e
 cases r with
 | cons r1 r2=>
  cases r2 with
  | cons r3 r4=>
   cases r4
   cases (show _=Value.ref D from r3)
   rw [<-hK] at ty O
   obtain ⟨_,its,Y,o,ho,B,n,z⟩:=(show bK X.prog X.w H s.heap D (.tup (cs.map V.ref)) from I.hok D _ J)
   obtain ⟨oc,dd,od,sl⟩:=o
   simp only at B z
   subst B z
   rw [<-vz Y] at O
   have fin:∀tk,EP X pins σ Q (.bool k) { s with toks:=tk }:=λtk=>⟨.bl k,H,I.tok tk,rfl,q⟩
   obtain ⟨φ,Z,hz,ne⟩:=Lg I r1 ty
   exact PySem.W.kia_tup Z I.rQ hz ho O ne fin
def G3 (K:PySem.W.Frag) (n:TAQ):TQ:=λp Q=>n p λes p1=>∃(e f:Ev) (cs:List Addr) (t:Value) (k:Bool),es=[e,f]/\lk p1 f=.tup (cs.map λc=>.atom (.ref c))/\tyD (lk p1 e)=some t/\xfD K (lk p1 e)/\PySem.W.kitAny K t (cs.map Value.ref)=some k/\Q (.fz (.bl k)) p1
theorem Ce {K:PySem.W.Frag}:∀{cs:List Addr} {vs:List V},aN K F (cs.map λc=>D.atom (.ref c)) vs->vs=cs.map V.ref
 | [],_,r=>by cases r;rfl
 | c::cs,_,r=>by
  cases r with
  | cons h t=>
   cases h
   rw [yb,Ce t]
theorem RX (hK:X.K=C.K) (hg:Gl X "isinstance") (hm:X.mg "isinstance"=none) (ha:PA X [a,b] (gJ C cI)) (he:starEach [a,b] X.env=(false,eval a X.env)::starEach [b] X.env:=by rfl) (hpl:(backTo pos (starEach [b] X.env)).any (·.1)=false:=by rfl) :
  PE X (.Call (.Name "isinstance" ps) [a,b] [] pos) (Up C (G3 C.K cI)):=
 QE.mk (eY (Jf hK) hg hm (by kernel_rfl) ha (he:=he) (hpl:=hpl)) λp σ F H R U Z=>dR U Z λes1 p1 J F1 H1 n O sh B I=>by
  obtain ⟨e1,e2,cs,t,k,h0,h1,h2,Y,hk,q⟩:=I
  obtain ⟨v,z,rfl,er,D⟩:=uL B h0
  obtain ⟨a1,vs,rfl,g,r⟩:=wA n D h1
  rw [Ce r] at g
  exact ⟨v,a1,cs,t,k,rfl,g,Ej n er h2 Y,hk,aZ n O sh (.bl _) q⟩
end
section
variable {X:Cx} {C:Pc} {a b:Expr} {pos:Pos} {v1 v2:V} {x:D} {k:Key}
theorem Xz:PE X (.Dict [] [] pos) (Up C (qC (.lK [] []))):=
 QE.mk KN λp σ F H R n z d hd=>⟨.fz (.lK [] []),p,upd F d (.dK []),n.put hd,bY (n.free hd).1 _,jM.refl _,Rep.lK (vs:=[]) aL rfl .nil,z⟩
end
section
variable {K:PySem.W.Frag} {C N M NM:Addr} {nm q nm' q':Str} {bs bs':List Value} {hd ab hd' ab':Bool} {sn sn':List Str} {sub sub':List Value} {col col':Option Bool} {dd Ur:Option Addr} {k0 k1 k2 k3 k5 j0 j1 j2 j3 j5:Option Value}
def strKeys (es:Array DictEntry):Bool:=es.toList.all λe=>match e.key with|.str _ _=>true|_=>false
theorem bD {sl:Array (Option Value)} (l:K.lookup N=some ⟨oc,od,.dict es ep,sl⟩) (h:strKeys es=true):PySem.W.nsOkIn K N=true:=by
 unfold PySem.W.nsOkIn
 rw [l]
 show (es.all λe=>match e.key with|.str _ _=>true|_=>false)=true
 rw [<-yY]
 exact h
theorem Cg (l:K.lookup C=some (excClassObj nm q C N bs Gr hd sn sub ab col dd k0 k1 k2 k3 k5 "ValueError.__new__")) (o:PySem.W.nsOkIn K N=true) (i:PySem.W.nsIn K N "__init__"=some none):PySem.W.excIn K C Gr "ValueError.__new__"=true:=by
 have t:PySem.W.tailIn K Gr Gr=true:=by unfold PySem.W.tailIn;simp
 unfold PySem.W.excIn
 rw [l]
 simp [t,o,i]
theorem d9 (l:K.lookup C=some (excClassObj nm q C N bs (.ref M::Gr) hd sn sub ab col dd k0 k1 k2 k3 k5 "ValueError.__new__")) (o:PySem.W.nsOkIn K N=true) (i:PySem.W.nsIn K N "__init__"=some none)
  (B:K.lookup M=some (excClassObj nm' q' M NM bs' Gr hd' sn' sub' ab' col' Ur j0 j1 j2 j3 j5 "ValueError.__new__")) (z:PySem.W.nsOkIn K NM=true) (D:PySem.W.nsIn K NM "__init__"=some none):PySem.W.excIn K C Gr "ValueError.__new__"=true:=by
 have t:PySem.W.tailIn K Gr Gr=true:=by unfold PySem.W.tailIn;simp
 have n:PySem.W.tailIn K Gr (.ref M::Gr)=true:=by
  rw [PySem.W.tailIn]
  simp only [B,z,D,t]
  simp
 unfold PySem.W.excIn
 rw [l]
 simp [n,o,i]
theorem fZ (c:PySem.W.isClsIn K C=true) (y:PySem.W.typeIn K (.ref C)=some (.type "type")) (s:PySem.W.subIn K t (.ref C)=some b) (h:t=.ref C->b=true):PySem.W.kitOne K t (.ref C)=some b:=by
 unfold PySem.W.kitOne
 by_cases e:t=.ref C
 ·rw [zo (by rw [e];simp),h e]
 ·rw [zh (by simp [e])]
  unfold PySem.W.kitCls
  have n:(PySem.W.clsIn K C).isSome=true:=c
  simp only [n,y]
  exact s
theorem Eu (m:PySem.W.kitMeta T=true) (s:PySem.W.subIn K t (.type T)=some b) (h:t=.type T->b=true):PySem.W.kitOne K t (.type T)=some b:=by
 unfold PySem.W.kitOne
 by_cases e:t=.type T
 ·rw [zo (by rw [e];simp),h e]
 ·rw [zh (by simp [e])]
  unfold PySem.W.kitCls
  simp only [m,if_true]
  exact s
theorem XC (s:PySem.W.subIn K (.ref C') (.ref C)=some false) (s':PySem.W.subIn K (.ref C) (.ref C)=some true):(Value.ref C':Value)=.ref C->false=true:=λe=>by
 cases e
 rw [s] at s'
 cases s'
end
def aaD:Key->PyData
 | .inl i=>.int i
 | .inr x=>.str x
mutual
def toX:D->PyData
 | .bl b=>.bool b
 | .int i=>.int i
 | .str x=>.str x
 | .lst xs=>.list (toXs xs)
 | .tup xs=>.tuple (toXs xs)
 | .lK ks ds=>.dict ((ks.map aaD).zip (toXs ds))
 | _=>.none
def toXs:List D->List PyData
 | []=>[]
 | x::xs=>toX x::toXs xs
end
mutual
def M3:D->Bool
 | .atom _=>false
 | .exc _=>false
 | .Aj _=>false
 | .lst xs=>rG xs
 | .tup xs=>rG xs
 | .lK _ ds=>rG ds
 | _=>true
def rG:List D->Bool
 | []=>true
 | x::xs=>M3 x && rG xs
end
section
variable {X:Cx} {pins:List (Addr × Obj)} {s:Shared} {σ:St} {H F:Hp}
inductive Ci:PyData->Prop
 | none:Ci .none
 | bool (b:Bool):Ci (.bool b)
 | int {i:Int}:i.natAbs.log2<1920->Ci (.int i)
 | str {x:Str}:(reprText x).length<=sizeLine->Ci (.str x)
mutual
def M4:D->Prop
 | .int i=>i.natAbs.log2<1920
 | .str x=>(reprText x).length<=sizeLine
 | .lst xs=>rH xs
 | .tup xs=>rH xs
 | .lK ks ds=>(∀k∈ks,Ci (aaD k))/\rH ds
 | _=>True
def rH:List D->Prop
 | []=>True
 | x::xs=>M4 x/\rH xs
end
end
structure Good (k n:Nat) (d:D):Prop where
 pl:M3 d=true
 sm:M4 d
 dp:(toX d).depth<=k
 sz:(toX d).shown.length<=n
theorem nY:∀ns:List Int,iH (ns.map D.int)=true/\PyData.canLayAll0 (toPs (ns.map D.int))=true/\PyData.depthAll (toPs (ns.map D.int))<=1
 | []=>⟨rfl,rfl,yu _⟩
 | n::r=>by
  obtain ⟨h1,h2,h3⟩:=nY r
  refine ⟨h1,h2,?_⟩
  show max _ _<=1
  exact Nat.max_le.mpr ⟨by first|exact zx 1|exact yu 1,h3⟩
theorem Ep.ints (ns:List Int):Ep (.lst (ns.map D.int)):=⟨(nY ns).1,(nY ns).2.1,zY (Nat.succ_le_succ (nY ns).2.2) (by decide)⟩
theorem vA:∀ns ms:List Int,wN (.lst (ns.map D.int)) (.lst (ms.map D.int))=decide (ns=ms)
 | [],[]=>rfl
 | [],_::_=>rfl
 | _::_,[]=>rfl
 | n::r,m::t=>by
  have z:PyData.eqvAll (toPs (r.map D.int)) (toPs (t.map D.int))=decide (r=t):=vA r t
  show ((n == m) && PyData.eqvAll (toPs (r.map D.int)) (toPs (t.map D.int)))=_
  rw [z,Bool.eq_iff_iff];simp
theorem pO (h:Ep d):wN d d=true:=SeqAt.eqv_refl _ h.ly
section
variable {X:Cx} {C:Pc} {e:Expr} {t1 t2:TN}
def nOr (z n:TN):TN:=λp Q=>z p Q\/n p Q
theorem aaE (h1:PE X e (m9 C t1)) (h2:PE X e (m9 C t2)):PE X e (m9 C (nOr t1 t2)):=λpins s σ H Q I D=>by
 obtain ⟨p,F,R,n,J,B⟩:=D
 rcases J with z|z
 ·exact h1 pins s σ H Q I ⟨p,F,R,n,z,B⟩
 ·exact h2 pins s σ H Q I ⟨p,F,R,n,z,B⟩
end
def Pc.add (C:Pc) (W:Hp):Pc:=⟨C.K,C.F0,λa=>match W a with|some o=>some o|none=>C.H0 a,C.bs⟩
def Hp0:Hp:=λ_=>none
def Hld (o:HO):Prop:=(∃vs,o=.lst vs)\/(∃n,o=.dK n)\/(∃C dx fs,o=.ins C dx fs)\/∃x,o=.own x
structure cW (C:Pc) (W:Hp):Prop where
 lst:∀a o,W a=some o->Hld o
 h0:∀a o,W a=some o->C.H0 a=none
 f0:∀a o,W a=some o->C.F0 a=none
 bs:∀a o,W a=some o->∀q∈C.bs,q.2≠a
theorem cW.nil (C:Pc):cW C Hp0:=⟨λ_ _ h=>(nomatch h),λ_ _ h=>(nomatch h),λ_ _ h=>(nomatch h),λ_ _ h=>(nomatch h)⟩
section
variable {X:Cx} {C:Pc} {W:Hp} {p:aO} {σ:St} {F H:Hp} {a:Addr} {o:HO}
theorem i_ (h:W a=some o):(C.add W).H0 a=some o:=by show (match W a with|some o=>some o|none=>C.H0 a)=_;rw [h]
theorem gV (h:W a=none):(C.add W).H0 a=C.H0 a:=by show (match W a with|some o=>some o|none=>C.H0 a)=_;rw [h]
theorem iI (h:(C.add W).H0 a=none):W a=none/\C.H0 a=none:=by
 cases e:W a with
 | none=>exact ⟨rfl,by rw [<-gV (C:=C) e];exact h⟩
 | some o=>rw [i_ e] at h;cases h
theorem cW.non (ok:cW C W) (h:C.H0 a=some o):W a=none:=by
 cases e:W a with
 | none=>rfl
 | some u=>rw [ok.h0 a u e] at h;cases h
theorem RS.wH (rs:RS (C.add W) p σ F H) (ok:cW C W) (h:W a=some o):H a=some o:=rs.keep a o (i_ h) (ok.bs a o h)
theorem RS.wF (rs:RS (C.add W) p σ F H) (ok:cW C W) (h:W a=some o):F a=none:=by
 cases e:F a with
 | none=>rfl
 | some u=>
  rcases rs.new a u e with z|z|⟨xs,z⟩
  ·rw [show (C.add W).F0 a=C.F0 a from rfl,ok.f0 a o h] at z;cases z
  ·rw [i_ h] at z;cases z
  ·have:=rs.sub a u e
   rw [rs.wH ok h,z] at this
   rcases ok.lst a o h with ⟨vs,rfl⟩|⟨vs,rfl⟩|⟨_,_,_,rfl⟩|⟨vs,rfl⟩<;>cases this
theorem RS.un (rs:RS (C.add W) p σ F H) (ok:cW C W):RS C p σ F H:=by
 refine ⟨rs.sub,rs.ext,λb u e=>?_,λb u e n=>rs.keep b u (by rw [gV (ok.non e)];exact e) n,λb n=>rs.grow b λz=>n (iI z).2,rs.len,λi s e=>?_,rs.apart,rs.pin⟩
 ·rcases rs.new b u e with z|z|z
  ·exact .inl z
  ·exact .inr (.inl (iI z).2)
  ·exact .inr (.inr z)
 ·obtain ⟨v,e1,r⟩:=rs.sl i s e
  refine ⟨v,e1,?_⟩
  cases s with
  | d x=>exact r
  | own xs=>obtain ⟨b,vs,O,J,I,D,B⟩:=r;exact ⟨b,vs,O,J,(iI I).2,D,B⟩
  | bor xs=>exact r
theorem RS.ad (rs:RS C p σ F H) (B:∀a o,W a=some o->H a=some o/\F a=none)
  (Y:∀(i:Nat) (xs:List D) (a:Addr),p[i]? = some (some (.own xs))->σ[i]? = some (some (.ref a))->W a=none):RS (C.add W) p σ F H:=by
 refine ⟨rs.sub,rs.ext,λb u e=>?_,λb u e n=>?_,λb n=>?_,rs.len,λi s e=>?_,rs.apart,rs.pin⟩
 ·rcases rs.new b u e with z|z|z
  ·exact .inl z
  ·refine .inr (.inl ?_)
   cases q:W b with
   | none=>rw [gV q];exact z
   | some w=>rw [(B b w q).2] at e;cases e
  ·exact .inr (.inr z)
 ·cases q:W b with
  | none=>rw [gV q] at e;exact rs.keep b u e n
  | some w=>rw [i_ q] at e;cases e;exact (B b _ q).1
 ·cases q:W b with
  | none=>rw [gV q] at n;exact rs.grow b n
  | some w=>intro z;rw [(B b _ q).1] at z;cases z
 ·obtain ⟨v,e1,r⟩:=rs.sl i s e
  refine ⟨v,e1,?_⟩
  cases s with
  | d x=>exact r
  | own xs=>
   obtain ⟨b,vs,rfl,U,O,J,I⟩:=r
   exact ⟨b,vs,rfl,U,by rw [gV (Y i xs b e e1)];exact O,J,I⟩
  | bor xs=>exact r
theorem RS.wO (rs:RS (C.add W) p σ F H) {i:Nat} {xs:List D} (e:p[i]? = some (some (.own xs))) (e1:σ[i]? = some (some (.ref a))):W a=none/\∃vs,H a=some (.lst vs):=by
 obtain ⟨v,e2,b,vs,rfl,I,z,n,B⟩:=rs.sl i _ e
 rw [e1] at e2;cases e2
 exact ⟨(iI z).1,vs,n⟩
theorem RS.Uz {o us:HO} (rs:RS (C.add W) p σ F H) (ok:cW C W) (h:W a=some o) (hn:Hld us) :
  RS (C.add (upd W a us)) p σ F (upd H a us)/\cW C (upd W a us):=by
 have D:=rs.un ok
 have fa:=rs.wF ok h
 have J:∀b o,upd W a us b=some o->∃o',W b=some o':=λb o e=>by
  by_cases B:b=a
  ·subst B;exact ⟨_,h⟩
  ·rw [aJ B] at e;exact ⟨_,e⟩
 refine ⟨RS.ad ⟨λb u e=>?_,D.ext,D.new,λb u e n=>?_,λb n e=>?_,D.len,λi s e=>?_,D.apart,D.pin⟩ (λb u e=>?_) (λi xs b e e1=>?_),⟨λb u e=>?_,λb u e=>?_,λb u e=>?_,λb u e=>?_⟩⟩
 ·rw [aJ (λz=>by rw [z,fa] at e;cases e)];exact D.sub b u e
 ·have B:b≠a:=λz=>by rw [z,ok.h0 a _ h] at e;cases e
  rw [aJ B];exact D.keep b u e n
 ·by_cases B:b=a
  ·subst B;rw [aL] at e;cases e
  ·rw [aJ B] at e;exact D.grow b n e
 ·obtain ⟨v,e1,r⟩:=rs.sl i s e
  obtain ⟨v',O,r'⟩:=D.sl i s e
  rw [e1] at O;cases O
  refine ⟨v,e1,?_⟩
  cases s with
  | d x=>exact r'
  | own xs=>
   obtain ⟨b,I,rfl,z2,Y,z4,Z⟩:=r'
   have B:b≠a:=λz=>by have:=(rs.wO e e1).1;rw [z,h] at this;cases this
   exact ⟨b,I,rfl,z2,Y,by rw [aJ B];exact z4,Z⟩
  | bor xs=>
   obtain ⟨b,I,rfl,z2,⟨q,hq,Y⟩,z4,Z⟩:=r'
   have B:b≠a:=λz=>ok.bs a _ h q hq (Y.trans z)
   exact ⟨b,I,rfl,z2,⟨q,hq,Y⟩,by rw [aJ B];exact z4,Z⟩
 ·by_cases B:b=a
  ·subst B;rw [aL] at e ⊢;exact ⟨e,fa⟩
  ·rw [aJ B] at e ⊢;exact ⟨rs.wH ok e,rs.wF ok e⟩
 ·have:=(rs.wO e e1).1
  by_cases B:b=a
  ·subst B;rw [h] at this;cases this
  ·rw [aJ B];exact this
 ·by_cases B:b=a
  ·subst B;rw [aL] at e;cases e;exact hn
  ·rw [aJ B] at e;exact ok.lst b u e
 ·obtain ⟨o',U⟩:=J b u e;exact ok.h0 b o' U
 ·obtain ⟨o',U⟩:=J b u e;exact ok.f0 b o' U
 ·obtain ⟨o',U⟩:=J b u e;exact ok.bs b o' U
theorem RS.aaG (rs:RS (C.add W) p σ F H) (ok:cW C W) (h:W a=some (.lst vs)) :
  RS (C.add (upd W a (.lst us))) p σ F (upd H a (.lst us))/\cW C (upd W a (.lst us)):=rs.Uz ok h (.inl ⟨_,rfl⟩)
theorem RS.M5 {vs:HO} (rs:RS (C.add W) p σ F H) (ok:cW C W) (h1:F a=none) (h2:(C.add W).H0 a=none) (h3:H a=some vs) (U:Hld vs) (D:Eb p σ a) :
  RS (C.add (upd W a vs)) p σ F H/\cW C (upd W a vs):=by
 have B:=rs.un ok
 obtain ⟨Y,c0⟩:=iI h2
 refine ⟨B.ad (λb u e=>?_) (λi xs b e e1=>?_),⟨λb u e=>?_,λb u e=>?_,λb u e=>?_,λb u e=>?_⟩⟩
 ·by_cases n:b=a
  ·subst n;rw [aL] at e;cases e;exact ⟨h3,h1⟩
  ·rw [aJ n] at e;exact ⟨rs.wH ok e,rs.wF ok e⟩
 ·have:=(rs.wO e e1).1
  by_cases n:b=a
  ·subst n;exact absurd e1 (D i _ e rfl)
  ·rw [aJ n];exact this
 ·by_cases n:b=a
  ·subst n;rw [aL] at e;cases e;exact U
  ·rw [aJ n] at e;exact ok.lst b u e
 ·by_cases n:b=a
  ·subst n;exact c0
  ·rw [aJ n] at e;exact ok.h0 b u e
 ·by_cases n:b=a
  ·subst n
   cases q:C.F0 b with
   | none=>rfl
   | some w=>rw [B.ext b w q] at h1;cases h1
  ·rw [aJ n] at e;exact ok.f0 b u e
 ·by_cases n:b=a
  ·subst n
   intro q O z
   obtain ⟨J,xs,I⟩:=B.pin q O
   exact D q.1 _ I rfl (by rw [J,z])
  ·rw [aJ n] at e;exact ok.bs b u e
theorem RS.take (rs:RS (C.add W) p σ F H) (ok:cW C W) (h1:F a=none) (h2:(C.add W).H0 a=none) (h3:H a=some (.lst vs)) (n:Eb p σ a) :
  RS (C.add (upd W a (.lst vs))) p σ F H/\cW C (upd W a (.lst vs)):=rs.M5 ok h1 h2 h3 (.inl ⟨_,rfl⟩) n
end
structure jC where
 nx:Hp->aO->Prop
 rt:Rt->Hp->aO->Prop
 bk:Hp->aO->Prop:=λ_ _=>False
 ct:Hp->aO->Prop:=λ_ _=>False
abbrev nj:=jC->Hp->aO->Prop
def jC.dn (C:Pc) (F0:Hp) (E:jC):Ends where
 nx:=λσ H=>∃W p F,RS (C.add W) p σ F H/\cW C W/\aP F0 F/\E.nx W p
 rt:=λv H=>∃r W p σ F,RS (C.add W) p σ F H/\cW C W/\aP F0 F/\Li (C.add W) p σ F H r v/\E.rt r W p
 bk:=λσ H=>∃W p F,RS (C.add W) p σ F H/\cW C W/\aP F0 F/\E.bk W p
 ct:=λσ H=>∃W p F,RS (C.add W) p σ F H/\cW C W/\aP F0 F/\E.ct W p
theorem wV {E:jC} (s:aP F F1):(E.dn C F1).Le (E.dn C F):=⟨λ_ _ n=>by obtain ⟨W,p,G,a,k,b,c⟩:=n;exact ⟨W,p,G,a,k,s.trans b,c⟩,λ_ _ n=>by obtain ⟨r,W,p,σ,G,a,k,b,c⟩:=n;exact ⟨r,W,p,σ,G,a,k,s.trans b,c⟩,λ_ _ n=>by obtain ⟨W,p,G,a,k,b,c⟩:=n;exact ⟨W,p,G,a,k,s.trans b,c⟩,λ_ _ n=>by obtain ⟨W,p,G,a,k,b,c⟩:=n;exact ⟨W,p,G,a,k,s.trans b,c⟩⟩
def kJ (C:Pc) (t:nj):TS:=λn σ H=>∃W p F E,RS (C.add W) p σ F H/\cW C W/\t E W p/\(E.dn C F).Le n
section
variable {X:Cx} {C:Pc} {a b c e:Expr} {pos:Pos} {K:PySem.W.Frag} {p:aO} {σ:St} {F H:Hp} {st:Stmt} {rest:List Stmt} {t u:nj}
theorem VS.mk {t:TS} (h:PS X st t) (hi:∀W p σ F H E,RS (C.add W) p σ F H->cW C W->t' E W p->t (E.dn C F) σ H):PS X st (kJ C t'):=λpins s σ H D I n=>by
 obtain ⟨W,p,F,E,z,ok,B,l⟩:=n
 exact bu (h pins s σ H _ I (hi W p σ F H E z ok B)) λ_ _ q=>q.le l
theorem VSs.mk {t:TS} (h:gw X sts t) (hi:∀W p σ F H E,RS (C.add W) p σ F H->cW C W->t' E W p->t (E.dn C F) σ H):gw X sts (kJ C t'):=λpins s σ H D I n=>by
 obtain ⟨W,p,F,E,z,ok,B,l⟩:=n
 exact bu (h pins s σ H _ I (hi W p σ F H E z ok B)) λ_ _ q=>q.le l
def M6 (t:Hp->jH):nj:=λE W p=>t W { nx:=E.nx W,rt:=λr=>E.rt r W,bk:=E.bk W,ct:=E.ct W } p
theorem RZ {E:jC} (ok:cW C W):(gR.dn (C.add W) F { nx:=E.nx W,rt:=λr=>E.rt r W,bk:=E.bk W,ct:=E.ct W }).Le (E.dn C F):=
 ⟨λ_ _ n=>by obtain ⟨p,G,a,b,c⟩:=n;exact ⟨W,p,G,a,ok,b,c⟩,λ_ _ n=>by obtain ⟨r,p,σ,G,a,b,c,d⟩:=n;exact ⟨r,W,p,σ,G,a,ok,b,c,d⟩,λ_ _ n=>by obtain ⟨p,G,a,b,c⟩:=n;exact ⟨W,p,G,a,ok,b,c⟩,λ_ _ n=>by obtain ⟨p,G,a,b,c⟩:=n;exact ⟨W,p,G,a,ok,b,c⟩⟩
theorem a_ {t:Hp->jH} (h:∀W,cW C W->PS X st (iU (C.add W) (t W))):PS X st (kJ C (M6 t)):=λpins s σ H D I n=>by
 obtain ⟨W,p,F,E,z,ok,B,l⟩:=n
 exact h W ok pins s σ H D I ⟨p,F,_,z,B,(RZ ok).trans l⟩
def M7:nj:=λE W p=>E.nx W p
def wW (t u:nj):nj:=λE W p=>t { E with nx:=u E } W p
theorem aaH:gw X [] (kJ C M7):=VSs.mk vQ λW p σ F H E n ok q=>⟨W,p,F,n,ok,.refl _,q⟩
theorem aV (h1:PS X st (kJ C t)) (h2:gw X rest (kJ C u)):gw X (st::rest) (kJ C (wW t u)):=
 VSs.mk (Ar h1 h2) λW p σ F H E J ok q=>⟨W,p,F,_,J,ok,q,⟨λB H1 D=>by obtain ⟨O,p1,U,n,z,I,q1⟩:=D;exact ⟨O,p1,U,E,n,z,q1,wV I⟩,λ_ _ h=>h,λ_ _ h=>h,λ_ _ h=>h⟩⟩
theorem fj (h1:PS X st (kJ C t)):gw X [st] (kJ C t):=Ge h1
def jC.of (E:gR):jC:={ nx:=λ_=>E.nx,rt:=λr _=>E.rt r,bk:=λ_=>E.bk,ct:=λ_=>E.ct }
theorem Li.un (h:Li (C.add W) p σ F H r v):Li C p σ F H r v:=by
 cases r with
 | rd x=>exact h
 | ro xs=>obtain ⟨y,vs,J,I,D,B,z,n⟩:=h;exact ⟨y,vs,J,I,(iI D).2,B,z,n⟩
theorem of_le {E:gR}:((jC.of E).dn C F).Le (E.dn C F):=⟨λ_ _ n=>by obtain ⟨W,p,G,a,k,b,c⟩:=n;exact ⟨p,G,a.un k,b,c⟩,λ_ _ n=>by obtain ⟨r,W,p,σ,G,a,k,b,c,d⟩:=n;exact ⟨r,p,σ,G,a.un k,b,c.un,d⟩,λ_ _ n=>by obtain ⟨W,p,G,a,k,b,c⟩:=n;exact ⟨p,G,a.un k,b,c⟩,λ_ _ n=>by obtain ⟨W,p,G,a,k,b,c⟩:=n;exact ⟨p,G,a.un k,b,c⟩⟩
def XD (t:nj):jH:=λE p=>t (jC.of E) Hp0 p
theorem Ew (h:gw X sts (kJ C t)):gw X sts (iU C (XD t)):=λpins s σ H D I n=>by
 obtain ⟨p,F,E,z,B,l⟩:=n
 exact h pins s σ H D I ⟨Hp0,p,F,_,z,.nil C,B,of_le.trans l⟩
def ad0 (C:Pc) (t:Hp->TQ):TE:=λσ H Q=>∃W,cW C W/\Up (C.add W) (t W) σ H Q
def ad1 (C:Pc) (t:Hp->m8):TT:=λσ H Q=>∃W,cW C W/\gf (C.add W) (t W) σ H Q
def ad2 (C:Pc) (t:Hp->TAQ):TA:=λσ H Q=>∃W,cW C W/\gJ (C.add W) (t W) σ H Q
def aaI (C:Pc) (t:Hp->uP):TI:=λσ H Q=>∃W,cW C W/\vh (C.add W) (t W) σ H Q
def ad3 (C:Pc) (t:Hp->sX):TG:=λv σ H Q=>∃W,cW C W/\I_ (C.add W) (t W) v σ H Q
theorem wX {t:Hp->TQ} (h:∀W,cW C W->PE X e (Up (C.add W) (t W))):PE X e (ad0 C t):=λpins s σ H Q I n=>by obtain ⟨W,ok,z⟩:=n;exact h W ok pins s σ H Q I z
theorem aaJ {t:Hp->m8} (h:∀W,cW C W->PT X e (gf (C.add W) (t W))):PT X e (ad1 C t):=λpins s σ H Q I n=>by obtain ⟨W,ok,z⟩:=n;exact h W ok pins s σ H Q I z
theorem aaK {t:Hp->TAQ} (h:∀W,cW C W->PA X es (gJ (C.add W) (t W))):PA X es (ad2 C t):=λpos pins s σ H Q I n=>by obtain ⟨W,ok,z⟩:=n;exact h W ok pos pins s σ H Q I z
theorem aaL {t:Hp->uP} (h:∀W,cW C W->PI X tg it (vh (C.add W) (t W))):PI X tg it (aaI C t):=λpins s σ H Q I n=>by obtain ⟨W,ok,z⟩:=n;exact h W ok pins s σ H Q I z
theorem ad4 {t:Hp->sX} (h:∀W,cW C W->PG X tg (I_ (C.add W) (t W))):PG X tg (ad3 C t):=λpins s σ H v u Q I r n=>by obtain ⟨W,ok,z⟩:=n;exact h W ok pins s σ H v u Q I r z
def R0 (ti:Hp->uP) (g:Hp->sX) (B:nj):nj:=λE W p=>ti W p λn item p1=>∃I:Nat->Hp->aO->Prop,I 0 W p1/\(∀i z p2,i<n->I i z p2->g z (item i) p2 λD=>B { E with nx:=I (i+1),ct:=I (i+1),bk:=E.nx } z D)/\∀z p2,I n z p2->E.nx z p2
theorem tV (hp:PassesOwn (model X.prog X.w) X.A X.env X.xe) (hc:X.calm=true) (hi:∀W,cW C W->PI X tg iter (vh (C.add W) (ti W))) (hg:∀W,cW C W->PG X tg (I_ (C.add W) (g W))) (hb:gw X body (kJ C tb))
  (hs:∀x,foldedSetIterable iter X.env x=pure x:=by intro _;rfl):PS X (.For tg iter body [] pos) (kJ C (R0 ti g tb)):=
 VS.mk (J6 hp hc (aaL hi) (ad4 hg) hb hs) λW p σ F H E rs ok ht=>⟨W,ok,p,F,_,rs,ht,λJ H1 z=>by
  obtain ⟨n,item,p1,F1,GK,s1,Ql,jq,I,i0,Z,Em⟩:=z
  refine ⟨λi m σ H=>m=n - i/\i<=n/\∃W p F,RS (C.add W) p σ F H/\cW C W/\aP F1 F/\I i W p,⟨n,by simp,yu _,W,p1,F1,GK,ok,.refl _,i0⟩,?_⟩
  rintro i m σ2 H2 ⟨rfl,hi,W2,p2,F2,D,Y,s2,i2⟩
  by_cases O:i<n
  ·refine .inr ⟨jq.go i F2 H2 D.sub s2 O,λσ' H'=>∃W p F,RS (C.add W) p σ' F H'/\cW C W/\aP F1 F/\I (i+1) W p,λσ' H' h=>⟨n - (i+1),by omega,rfl,O,h⟩,λx H' y=>?_⟩
   obtain ⟨F3,JH,s3,r3⟩:=JQ.out (C:=C.add W2) jq D s2 O y
   refine ⟨W2,Y,p2,F3,item i,_,JH,r3,Z i W2 p2 O i2,λσ4 H4 ⟨p4,F4,RJ,s4,q4⟩=>⟨W2,p4,F4,_,RJ,Y,q4,?_⟩⟩
   have B:aP F1 F4:=s2.trans (s3.trans s4)
   exact ⟨λ_ _ z=>by obtain ⟨W5,U,F5,a,k,b,c⟩:=z;exact ⟨W5,U,F5,a,k,B.trans b,c⟩,λ_ _ z=>by obtain ⟨r,W5,U,σ5,F5,a,k,b,c⟩:=z;exact ⟨r,W5,U,σ5,F5,a,k,s1.trans (B.trans b),c⟩,λ_ _ z=>by obtain ⟨W5,U,F5,a,k,b,c⟩:=z;exact ⟨W5,U,F5,a,k,s1.trans (B.trans b),c⟩,λ_ _ z=>by obtain ⟨W5,U,F5,a,k,b,c⟩:=z;exact ⟨W5,U,F5,a,k,B.trans b,c⟩⟩
  ·have e:i=n:=by omega
   subst e
   exact .inl ⟨jq.stop F2 H2 D.sub s2,W2,p2,F2,D,Y,s1.trans s2,Em W2 p2 i2⟩⟩
def M8 (c:Hp->m8) (B:nj):nj:=λE W p=>∃(I:Hp->aO->Prop) (n:aO->Nat),I W p/\∀z p1,I z p1->c z p1 λb p2=>if b=true then B { E with nx:=λW q=>I W q/\n q<n p1,ct:=λW q=>I W q/\n q<n p1,bk:=E.nx } z p2 else E.nx z p2
theorem R3 {c:Expr} (hp:PassesOwn (model X.prog X.w) X.A X.env X.xe) (hc:∀W,cW C W->PT X c (gf (C.add W) (tc W))) (hb:gw X body (kJ C tb)):PS X (.While c body [] pos) (kJ C (M8 tc tb)):=
 VS.mk (Ay hp (aaJ hc) hb) λW p σ F H E rs ok n=>by
  obtain ⟨I,μ,i0,step⟩:=n
  refine ⟨λm Y H1=>∃B p1 F1,RS (C.add B) p1 Y F1 H1/\cW C B/\aP F F1/\I B p1/\m=μ p1,⟨_,W,p,F,rs,ok,.refl _,i0,rfl⟩,?_⟩
  rintro m Y H1 ⟨B,p1,F1,GK,J,s1,i1,rfl⟩
  refine ⟨B,J,qM GK (step B p1 i1) λk p2 F2 H2 Z s2 sh q=>?_⟩
  refine dZ (λq=>?_) (λq=>?_) q
  ·refine ⟨λσ' H'=>∃W' p' F',RS (C.add W') p' σ' F' H'/\cW C W'/\aP F F'/\I W' p'/\μ p'<μ p1,λσ' H' n=>by obtain ⟨W',p',F',z1,z0,z2,z3,z4⟩:=n;exact ⟨_,z4,W',p',F',z1,z0,z2,z3,rfl⟩,B,p2,F2,_,Z,J,q,?_⟩
   have z:=s1.trans s2
   exact ⟨λ_ _ n=>by obtain ⟨O,D,U,a,k,b,c,d⟩:=n;exact ⟨O,D,U,a,k,z.trans b,c,d⟩,λ_ _ n=>by obtain ⟨r,O,D,σ5,U,a,k,b,c⟩:=n;exact ⟨r,O,D,σ5,U,a,k,z.trans b,c⟩,λ_ _ n=>by obtain ⟨O,D,U,a,k,b,c⟩:=n;exact ⟨O,D,U,a,k,z.trans b,c⟩,λ_ _ n=>by obtain ⟨O,D,U,a,k,b,c,d⟩:=n;exact ⟨O,D,U,a,k,z.trans b,c,d⟩⟩
  ·exact ⟨B,p2,F2,Z,J,s1.trans s2,q⟩
end
structure UG (K:PySem.W.Frag) (F H W:Hp) (r:D) (v:V) (W' F' H':Hp):Prop where
 ext:aP F F'
 sub:aP F' H'
 new:∀a o,F' a=some o->F a=some o\/H a=none\/W a≠none\/∃xs,o=.tup xs
 keep:∀a o,H a=some o->W a=none->H' a=some o
 wH:∀a o,W' a=some o->H' a=some o/\F' a=none/\Hld o/\(W a≠none\/H a=none)
 res:Rep K F' r v
abbrev Ex:=Hp->List D->(D->Hp->Prop)->Prop
def JL (K:PySem.W.Frag) (S:Ex):Sp:=λvs H Q _=>∃W ds F R,aP F H/\(∀a o,W a=some o->H a=some o/\F a=none/\Hld o)/\aN K F ds vs/\S W ds R/\∀r v n z H',UG K F H W r v n z H'->R r n->Q v H'
section
variable {X:Cx} {C:Pc} {W:Hp} {p:aO} {σ:St} {F H:Hp} {a:Addr} {o:HO}
theorem RS.M9 {r:D} {v:V} {W' Y H':Hp} (rs:RS (C.add W) p σ F H) (ok:cW C W) (po:UG C.K F H W r v W' Y H'):RS (C.add W') p σ Y H'/\cW C W':=by
 have B:=rs.un ok
 have fr:∀b vs,W b=none->F b=none->H b=some (.lst vs)->Y b=none/\H' b=some (.lst vs):=λb vs h1 h2 h3=>by
  have hk:=po.keep b _ h3 h1
  refine ⟨?_,hk⟩
  cases q:Y b with
  | none=>rfl
  | some u=>
   rcases po.new b u q with z|z|z|⟨xs,z⟩
   ·rw [h2] at z;cases z
   ·rw [h3] at z;cases z
   ·exact absurd h1 z
   ·have:=po.sub b u q
    rw [hk,z] at this;cases this
 have bW:∀q∈C.bs,W q.2=none:=λq J=>by
  cases e:W q.2 with
  | none=>rfl
  | some u=>exact absurd rfl (ok.bs _ u e q J)
 have nH:∀b,H b=none->C.H0 b=none:=λb e=>by
  cases q:C.H0 b with
  | none=>rfl
  | some u=>exact absurd e (B.grow b (by rw [q];intro z;cases z))
 have h0':∀b u,W' b=some u->C.H0 b=none:=λb u e=>by
  rcases (po.wH b u e).2.2.2 with z|z
  ·cases q:W b with
   | none=>exact absurd q z
   | some w=>exact ok.h0 b w q
  ·exact nH b z
 refine ⟨RS.ad ⟨po.sub,B.ext.trans po.ext,λb u e=>?_,λb u e n=>po.keep b u (B.keep b u e n) (ok.non e),λb n z=>?_,B.len,λi s e=>?_,B.apart,B.pin⟩ (λb u e=>⟨(po.wH b u e).1,(po.wH b u e).2.1⟩) (λi xs b e e1=>?_),⟨λb u e=>(po.wH b u e).2.2.1,h0',λb u e=>?_,λb u e q J z=>?_⟩⟩
 ·rcases po.new b u e with z|z|z|z
  ·exact B.new b u z
  ·exact .inr (.inl (nH b z))
  ·cases q:W b with
   | none=>exact absurd q z
   | some w=>exact .inr (.inl (ok.h0 b w q))
  ·exact .inr (.inr z)
 ·cases q:C.H0 b with
  | none=>exact n q
  | some u=>
   cases q2:H b with
   | none=>exact B.grow b n q2
   | some u2=>rw [po.keep b u2 q2 (ok.non q)] at z;cases z
 ·obtain ⟨w,e1,r⟩:=B.sl i s e
  refine ⟨w,e1,?_⟩
  cases s with
  | d x=>exact Rep.mono po.ext r
  | own xs=>
   obtain ⟨b,vs,rfl,I,U,O,Z⟩:=r
   obtain ⟨y1,y2⟩:=fr b vs (rs.wO e e1).1 I O
   exact ⟨b,vs,rfl,y1,U,y2,Z.mono po.ext⟩
  | bor xs=>
   obtain ⟨b,vs,rfl,I,⟨q,J,U⟩,O,Z⟩:=r
   obtain ⟨y1,y2⟩:=fr b vs (U▸bW q J) I O
   exact ⟨b,vs,rfl,y1,⟨q,J,U⟩,y2,Z.mono po.ext⟩
 ·obtain ⟨z1,vs,I⟩:=rs.wO e e1
  cases q:W' b with
  | none=>rfl
  | some u=>
   rcases (po.wH b u q).2.2.2 with z|z
   ·exact absurd z1 z
   ·rw [I] at z;cases z
 ·cases q:C.F0 b with
  | none=>rfl
  | some w=>
   have:=(B.ext.trans po.ext) b w q
   rw [(po.wH b u e).2.1] at this;cases this
 ·rcases (po.wH b u e).2.2.2 with y|y
  ·exact y (z▸bW q J)
  ·obtain ⟨z1,xs,I⟩:=B.pin q J
   obtain ⟨w,e1,c,vs,e2,_,_,O,_⟩:=B.sl _ _ I
   rw [z1] at e1;cases e1;cases e2
   rw [z,y] at O;cases O
end
abbrev Qm:=Hp->aO->(D->Hp->aO->Prop)->Prop
def Jg (C:Pc) (t:Qm):TE:=λσ H Q=>∃W p F R,RS (C.add W) p σ F H/\cW C W/\t W p R/\∀d v n p1 z H1,RS (C.add n) p1 σ z H1->cW C n->aP F z->Rep C.K z d v->R d n p1->Q v H1
section
variable {X:Cx} {C:Pc} {a b c e o k:Expr} {es:List Expr} {pos:Pos} {K:PySem.W.Frag} {p:aO} {σ:St} {F H:Hp} {st:Stmt} {rest:List Stmt} {t u:nj}
def M_ (S:Ex) (t:Hp->TAQ):Qm:=λW p Q=>t W p λes p1=>∃ds,Qj es=some ds/\S W ds λr n=>Q r n p1
theorem jT {st:Stmt} {k:Nat} (hK:X.K=C.K) (D:aM X.K X.mg x st ps) (G:bV X.prog X.w X.K X.mg X.base m7 k D.f D.fd ps (JL X.K S)) (hr:bO k X.A) (ha:∀W,cW C W->PA X (e::es) (gJ (C.add W) (cI W)))
  (hg:Gl X x:=by rfl) (U:(x == ("__debug__":Str))=false:=by decide) (he:starEach (e::es) X.env=(false,eval e X.env)::starEach es X.env:=by rfl) (hpl:(backTo pos (starEach es X.env)).any (·.1)=false:=by rfl) :
  PE X (.Call (.Name x p0) (e::es) [] pos) (Jg C (M_ S cI)):=λpins s σ H Q I B=>by
 obtain ⟨W,p,F,R,rs,ok,ht,hq⟩:=B
 refine sH D G hr (aaK ha) hg U he hpl pins s σ H Q I ?_
 refine ⟨W,ok,dR rs ht λes1 p1 Z F1 H1 n s1 sh Y B=>?_⟩
 obtain ⟨ds,h1,q⟩:=B
 rw [zX,hK]
 refine ⟨W,ds,F1,_,n.sub,λb u z=>⟨n.wH ok z,n.wF ok z,ok.lst b u z⟩,sW (C:=C.add W) Y h1,q,λr v W' F' H' po hR=>?_⟩
 obtain ⟨J,O⟩:=RS.M9 n ok po
 exact hq r v W' p1 F' H' J O (s1.trans po.ext) po.res hR
def XH (i:Nat) (t:Qm):nj:=λE W p=>t W p λd n p1=>lM p1 i=true/\E.nx n (p1.set i (some (.d d)))
theorem tW {t:Qm} (hN:X.N.Nodup) (hi:X.N[i]? = some x) (O:Loc X.env.scope x) (he:PE X e (Jg C t)) (Y:swapsWith e (some (.Name x pos')) pos.line X.env=pure false:=by rfl) (hf:X.fn x=true\/X.env.scope.names.lookup x=some .local:=by first|exact .inl rfl|exact .inr rfl|assumption) :
  PS X (.Assign [.Name x pos'] e pos) (kJ C (XH i t)):=
 VS.mk (Dp hN hi O he Y hf) λW p σ F H E I ok U=>⟨W,p,F,_,I,ok,U,λd v W1 p1 F1 H1 n z D J B=>by obtain ⟨Z,q⟩:=B;exact ⟨W1,_,F1,n.uN Z J,z,D,q⟩⟩
def Nb (t:Qm):nj:=λE W p=>t W p λ_ n p1=>E.nx n p1
theorem Nf {t:Qm} (he:PE X e (Jg C t)) (J:swapsWith e none pos.line X.env=pure false:=by rfl):PS X (.Expr e pos) (kJ C (Nb t)):=
 VS.mk (Gf he J) λW p σ F H E D ok I=>⟨W,p,F,_,D,ok,I,λd v O p1 U H1 n z B Y q=>⟨O,p1,U,n,z,B,q⟩⟩
def vd:V->D
 | .int n=>.int n
 | v=>.atom v
theorem UJ (v:V) (F:Hp):Rep K F (vd v) v:=by cases v<;>first|exact .int _|exact .atom _
def XJ (W:Hp) (z n:TQ):TQ:=λp Q=>z p λe1 p1=>n p1 λe2 p2=>∃x vs k v,lk p2 e1=.atom (.ref x)/\W x=some (.lst vs)/\lk p2 e2=.int k/\gA vs k=some v/\Q (.fz (vd v)) p2
theorem gW {D:TQ} (ok:cW C W) (hK:X.K=C.K) (ha:PE X a (Up (C.add W) ta)) (Z:PE X b (Up (C.add W) D)) (Y:nG b):PE X (.Subscript a b pos) (Up (C.add W) (XJ W ta D)):=
 QE.mk (Kf (Kw hK) ha Z Y) λp σ F H R O U=>sV O U λe1 e2 p1 v1 v2 F1 H1 n J sh B z I=>by
  obtain ⟨x,vs,k,v,h1,h2,h3,h4,q⟩:=I
  rw [aY z h3,dI B h1]
  exact ⟨x,vs,k,v,rfl,rfl,.of (n.wH ok h2),h4,aZ n J sh (UJ v F1) q⟩
theorem Jh:ZD X (λo i H Q=>∃p xs k v,o=.ref p/\i=.int k/\H p=some (.lst xs)/\0<=k/\xs[k.toNat]? = some v/\Q v H):=by
 intro pins s σ H o i Y Z Q I B D h
 obtain ⟨p,xs,k,v,rfl,rfl,O,h0,z,q⟩:=h
 cases B
 obtain ⟨t,rfl⟩:=D
 obtain ⟨J,r,pl,hz⟩:=I.list (iV.of O)
 obtain ⟨w,U,n⟩:=r.get z
 have hl:=r.length
 have hn:=lV
 have hk:k.toNat<xs.length:=(zp.mp z).1
 exact wpAny_getItem_list pl.isList h0 (by omega) (by simpa using U) ⟨v,H,I,n,q⟩
def Ng (I B D:Hp->TQ):nj:=λE W p=>I W p λev p1=>B W p1 λJ p2=>D W p2 λO z=>∃x vs n k j,lk z ev=.int n/\lk z J=.atom (.ref x)/\W x=some (.lst vs)/\lk z O=.int k/\Bf vs.length k=some j/\E.nx (upd W x (.lst (vs.set j (.int n)))) z
theorem XM {pt : Pos} (he : ∀ W, cW C W → PE X e (Up (C.add W) (te W))) (ho : ∀ W, cW C W → PE X o (Up (C.add W) (to W))) (hk : ∀ W, cW C W → PE X k (Up (C.add W) (tk W)))
    (ha : ∀ v, assign (.Subscript o k pt) X.env v = (do
      let ov ← holding [v] (eval o X.env)
      let iv ← holding [v, ov] (eval k X.env)
      standAt pt
      holding [v, ov, iv] (setItem ov iv v)
      release [v, ov, iv] []) := by intro _; rfl)
    (hs : swapsWithSole [.Subscript o k pt] e pos.line X.env = pure false := by rfl) (hw : swappedStores [.Subscript o k pt] e X.env = pure none := by rfl)
    (h1 : (assignEach [.Subscript o k pt] X.env).map (·.2) = [assign (.Subscript o k pt) X.env] := by rfl) :
    PS X (.Assign [.Subscript o k pt] e pos) (kJ C (Ng te to tk)) :=
  VS.mk (Dn (wX he) (JX (wX ho) (wX hk) set_list ha) hs hw h1) λW p σ F H E rs ok D => ⟨W, ok, up1 rs D λe1 p1 v1 F1 H1 Y s1 Ql G4 D =>
    ⟨W, ok, up1 Y D λe2 p2 v2 F2 H2 U s2 I BJ D => ⟨W, ok, up1 U D λe3 p3 v3 F3 H3 B J z er3 zq=>by
      obtain ⟨x, vs, n, k, j, g1, g2, g3, g4, g5, q⟩:=zq
      rw [aY er3 g4, dI (BJ.mono J z) g2, aY ((G4.mono s2 I).mono J z) g1]
      obtain ⟨O, Z⟩ := B.aaG (us := vs.set j (.int n)) ok g3
      exact ⟨x, vs, k, j, rfl, rfl, B.wH ok g3, g5, _, p3, F3, O, Z, s1.trans (s2.trans J), q⟩⟩⟩⟩
def Nh (g:Int->Int->Int) (B D I:Hp->TQ):nj:=λE W p=>B W p λJ p1=>D W p1 λO p2=>∃x vs k n,lk p2 J=.atom (.ref x)/\W x=some (.lst vs)/\lk p2 O=.int k/\0<=k/\vs[k.toNat]? = some (.int n)/\I W p2 λev z=>∃m,lk z ev=.int m/\E.nx (upd W x (.lst (vs.set k.toNat (.int (g n m))))) z
theorem rJ {k:Int} (h0:0<=k) (h:k.toNat<n):Bf n k=some k.toNat:=by
 unfold Bf
 rw [zo h0,zo (by omega)]
theorem Ni (Z : Zx X op (ipI g)) (ho : ∀ W, cW C W → PE X o (Up (C.add W) (to W))) (hk : ∀ W, cW C W → PE X k (Up (C.add W) (tk W))) (he : ∀ W, cW C W → PE X e (Up (C.add W) (te W)))
    (ha : ∀ ov iv new, augStore k ov iv new = (do holding [new, ov, iv] (setItem ov iv new); release [new, ov, iv] []; pure .next) := by intros; rfl) :
    PS X (.AugAssign (.Subscript o k tpos) op e pos) (kJ C (Nh g to tk te)) :=
  VS.mk (Qx (wX ho) (wX hk) Jh (wX he) Z set_list ha) λW p σ F H E rs ok D => ⟨W, ok, up1 rs D λe1 p1 v1 F1 H1 U s1 Ql G4 D =>
    ⟨W, ok, up1 U D λe2 p2 v2 F2 H2 B s2 J BJ I=>by
      obtain ⟨x, vs, k, n, g1, g2, g3, g4, g5, D⟩:=I
      rw [aY BJ g3, dI (G4.mono s2 J) g1]
      refine ⟨x, vs, k, .int n, rfl, rfl, B.wH ok g2, g4, g5, W, ok, up1 B D λe3 p3 v3 F3 H3 z s3 sh3 er3 I=>?_⟩
      obtain ⟨m, g6, q⟩:=I
      rw [aY er3 g6]
      obtain ⟨O, Y⟩ := z.aaG (us := vs.set k.toNat (.int (g n m))) ok g2
      exact ⟨n, m, rfl, rfl, x, vs, k, k.toNat, rfl, rfl, z.wH ok g2, rJ g4 (zp.mp g5).1, _, p3, F3, O, Y, s1.trans (s2.trans s3), q⟩⟩⟩
end
section
variable {P:Program} {w:World} {K:PySem.W.Frag} {mg:Str->Option Value} {base:Heap}
theorem uE.aaM {x O:Str} {st:Stmt} {f:Addr} {fd:FuncData} {N ps:List Str} {k:Nat} {S:Ex} (Fn:uE K x O st f fd) (Sc:ao N ps (aa st)) (len:∀W ds R,S W ds R->ds.length=ps.length)
  (hbody:∀(U:Value) (A:Around) (outer:List Env) (s:Shared) (H:Hp) (E:XK) (C:Pc) (W:Hp) (ds:List D) (R:D->Hp->Prop),C.bs=[]->K=C.K->bO k (A.deeper (envOfC O (aa st) s.heap.objs.size f U))->S W ds R->
   ∃t,gw (fM m7 P w K mg base N O (aa st) f U A outer s H E).Ue (dG st) (kJ C t)/\t { nx:=λW' _=>R .non W',rt:=λr W' _=>∃d,r=.rd d/\R d W' } W (bT N (ds.map Sl.d))):bV P w K mg base m7 (k+1) f fd ps (JL K S):=by
 refine Fn.ok Sc (λvs H Q E h=>?_) (λU A outer s H vs Q E hr h=>?_)
 ·obtain ⟨W,ds,F,R,h1,h2,h3,h4,h5⟩:=h
  rw [<-h3.length];exact len W ds R h4
 obtain ⟨W,ds,F,R,sFH,hW,rl,hS,hq⟩:=h
 let C:Pc:=⟨K,F,λa=>match W a with|some _=>none|none=>H a,[]⟩
 have hC:∀a,C.H0 a=(match W a with|some _=>none|none=>H a):=λa=>rfl
 have hb:=hbody U A outer s H E C W ds R rfl rfl hr hS
 obtain ⟨t,ht,tq⟩:=hb
 have ok:cW C W:=⟨λa o e=>(hW a o e).2.2,λa o e=>by rw [hC,e],λa o e=>(hW a o e).2.1,λa o e q hq=>nomatch hq⟩
 have h0:∀a,(C.add W).H0 a=H a:=λa=>by
  cases e:W a with
  | none=>rw [gV e,hC,e]
  | some o=>rw [i_ e,(hW a o e).1]
 have Z:∀(i:Nat) (s:Sl),(bT N (ds.map Sl.d))[i]? = some (some s)->∃d,s=.d d/\ds[i]? = some d:=λi s h=>by
  unfold bT at h
  by_cases hi:i<ds.length
  ·rw [zJ (by simpa using hi)] at h
   rw [zN,zN] at h
   cases e:ds[i]? with
   | none=>rw [e] at h;cases h
   | some d=>rw [e] at h;cases h;exact ⟨d,rfl,rfl⟩
  ·rw [zS (by simpa using xz hi),zQ] at h
   split at h<;>cases h
 have ad6:∀(i:Nat) (v:V),vs[i]? = some v->(start N vs)[i]? = some (some v):=λi v h=>by
  unfold start
  have hi:=(zp.mp h).1
  rw [zJ (by simpa using hi)]
  simpa using h
 have rs:RS (C.add W) (bT N (ds.map Sl.d)) (start N vs) F H:=by
  refine ⟨sFH,.refl _,λa o h=>.inl h,λa o h _=>by rw [h0] at h;exact h,λa h=>by rw [h0] at h;exact h,?_,λi s h=>?_,λi j s s' a hij e1 m1 e2 m2 x1 x2=>?_,λq hq=>nomatch hq⟩
  ·unfold bT start
   rw [zj,zj,z9,z9,z9,zD,zD,rl.length]
  ·obtain ⟨d,rfl,h1⟩:=Z i s h
   obtain ⟨v,h2,h3⟩:=rl.get h1
   exact ⟨v,ad6 i v h2,h3⟩
  ·obtain ⟨d,rfl,_⟩:=Z i s e1
   cases m1
 have fin:∀(d:D) (Y:Hp) (p1:aO) (J:St) (v:V) (F1 H1:Hp),RS (C.add Y) p1 J F1 H1->cW C Y->Rep K F1 d v->R d Y->Q v H1:=λd Y p1 J v F1 H1 I B rr q=>by
  have rs2:=I.un B
  refine hq d v Y F1 H1 ⟨rs2.ext,rs2.sub,λa o e=>?_,λa o e n=>rs2.keep a o (by rw [hC,n];exact e) (λq hq=>nomatch hq),λa o e=>⟨I.wH B e,I.wF B e,B.lst a o e,?_⟩,rr⟩ q
  ·cases e2:W a with
   | some u=>exact .inr (.inr (.inl (by intro z;cases z)))
   | none=>
    rcases I.new a o e with z|z|z
    ·exact .inl z
    ·obtain ⟨z1,z2⟩:=iI z
     rw [hC,e2] at z2
     exact .inr (.inl z2)
    ·exact .inr (.inr (.inr z))
  ·have:=B.h0 a o e
   rw [hC] at this
   cases e2:W a with
   | none=>rw [e2] at this;exact .inr this
   | some u=>exact .inl (by intro z;cases z)
 refine ⟨_,ht,W,bT N (ds.map Sl.d),F,_,rs,ok,tq,⟨λJ H1 zq=>?_,λv H1 zq=>?_,λ_ _ ⟨_,_,_,_,_,_,z⟩=>z.elim,λ_ _ ⟨_,_,_,_,_,_,z⟩=>z.elim⟩⟩
 ·obtain ⟨Y,p1,F1,I,B,s1,q⟩:=zq
  exact fin .non Y p1 J .non F1 H1 I B .non q
 ·obtain ⟨r,Y,p1,J,F1,I,B,s1,rr,d,hr,q⟩:=zq
  subst hr
  exact fin d Y p1 J v F1 H1 I B rr q
theorem uE.XR {x n:Str} {st:Stmt} {f:Addr} {fd:FuncData} {N ps:List Str} {k:Nat} {S:Ex} (J:uE K x n st f fd) (I:ao N ps (aa st)) (len:∀W ds R,S W ds R->ds.length=ps.length)
  (B:∀(z:Value) (A:Around) (outer:List Env) (s:Shared) (H:Hp) (E:XK) (C:Pc) (W:Hp) (ds:List D) (R:D->Hp->Prop),K=C.K->bO k (A.deeper (envOfC n (aa st) s.heap.objs.size f z))->S W ds R->
   ∃t,gw (fM m7 P w K mg base N n (aa st) f z A outer s H E).Ue (dG st) (kJ C t)/\t { nx:=λW' _=>R .non W',rt:=λr W' _=>∃d,r=.rd d/\R d W' } W (bT N (ds.map Sl.d))):bV P w K mg base m7 (k+1) f fd ps (JL K S):=J.aaM I len λz A outer s H E C W ds R _=>B z A outer s H E C W ds R
end
structure vB (W:Hp) (bs:List Addr) (ms:List (List Int)):Prop where
 len:bs.length=ms.length
 nd:bs.Nodup
 at_:∀(i:Nat) (b:Addr) (ns:List Int),bs[i]? = some b->ms[i]? = some ns->W b=some (.lst (ns.map V.int))
def JM (W:Hp) (a:Addr) (n:List (List Int)):Prop:=∃bs,W a=some (.lst (bs.map V.ref))/\a ∉ bs/\vB W bs n
def R4 (W n:Hp):Prop:=∀b o,W b=some o->n b=some o
def UL (C:Pc) (k:Nat) (t:TN):TE:=λσ H Q=>∃W,cW C W/\m9 ((C.add W).sh k) t σ H Q
def UT (C:Pc) (k:Nat) (t:m8):TT:=λσ H Q=>∃W,cW C W/\gf ((C.add W).sh k) t σ H Q
def UW (C:Pc) (k:Nat) (g:sX):TG:=λv σ H Q=>∃W,cW C W/\nQ ((C.add W).sh k) k g v σ H Q
def Nj (k:Nat) (ti:Hp->uP) (g:sX) (J:m8) (O:TN):Hp->aO->(Addr->Hp->aO->Prop)->Prop:=λW p R=>ti W p λn item p1=>∃I:Nat->List (List Int)->aO->Prop,I 0 [] (List.replicate k none++p1)/\n<=100000 /\
 (∀i ys p2,i<n->I i ys p2->ys.length<=i/\g (item i) p2 λY=>J Y λb B=>if b=true then O B λr U=>∃ns:List Int,r=.ro (ns.map D.int)/\I (i+1) (ys++[ns]) U else I (i+1) ys B) /\
 ∀ys p2,I n ys p2->∀x z,JM z x ys->R4 W z->R x z (p2.drop k)
section
variable {X:Cx} {C:Pc} {W:Hp} {p:aO} {σ:St} {F H:Hp} {k:Nat} {pos:Pos}
theorem cW.sh (ok:cW C W):cW (C.sh k) W:=⟨ok.lst,ok.h0,ok.f0,λa o e q B=>by
 obtain ⟨q',n,z⟩:=zV.mp B
 rw [<-z];exact ok.bs a o e q' n⟩
theorem cW.ad8 (ok:cW (C.sh k) W):cW C W:=⟨ok.lst,ok.h0,ok.f0,λa o e q n=>ok.bs a o e (q.1+k,q.2) (zV.mpr ⟨q,n,rfl⟩)⟩
theorem vB.nil:vB W [] []:=⟨rfl,x6,λi b ns h=>by simp at h⟩
theorem vB.mem {bs:List Addr} {n:List (List Int)} {b:Addr} (r:vB W bs n) (h:b∈bs):∃ns,W b=some (.lst (List.map V.int ns)):=by
 obtain ⟨i,hi,e⟩:=yJ h
 have h1:bs[i]? = some b:=by rw [zg hi,e]
 obtain ⟨ns,h2⟩:∃ns,n[i]? = some ns:=by
  have z:i<n.length:=by rw [<-r.len];exact hi
  exact ⟨_,zg z⟩
 exact ⟨ns,r.at_ i b ns h1 h2⟩
theorem vB.snoc {bs:List Addr} {D:List (List Int)} {ns:List Int} (r:vB W bs D) (h:W a=none):vB (upd W a (.lst (ns.map V.int))) (bs++[a]) (D++[ns]):=by
 have B:a ∉ bs:=λz=>by
  obtain ⟨ns,e⟩:=r.mem z
  rw [e] at h;cases h
 refine ⟨by rw [zj,zj,r.len];rfl,List.nodup_append.mpr ⟨r.nd,by simp,λx J y I=>?_⟩,λi b n h1 h2=>?_⟩
 ·rw [zr] at I;subst I
  exact λz=>B (z▸J)
 ·by_cases hi:i<bs.length
  ·rw [zJ hi] at h1
   rw [zJ (by rw [<-r.len];exact hi)] at h2
   have O:b≠a:=λz=>B (z▸yn h1)
   rw [aJ O];exact r.at_ i b n h1 h2
  ·rw [zS (by omega)] at h1
   rw [zS (by rw [<-r.len];omega)] at h2
   have e:i - bs.length=0:=by
    have:=(zp.mp h1).1
    simpa using this
   rw [<-r.len,e] at h2
   rw [e] at h1
   simp at h1 h2
   subst h1 h2
   exact aL
theorem vB.more {bs:List Addr} (r:vB W bs ms) (h:a ∉ bs):vB (upd W a o) bs ms:=⟨r.len,r.nd,λi b ns h1 h2=>by
 have n:b≠a:=λz=>h (by rw [<-z];exact yn h1)
 rw [aJ n];exact r.at_ i b ns h1 h2⟩
theorem Ji (rs:RS (C.add W) p σ F H) (ok:cW C W) (ht:Nj k ti g tt te W p R)
  (hq:∀x W1 p1 F1 H1,RS (C.add W1) p1 σ F1 H1->cW C W1->aP F F1->R x W1 p1->Q (.ref x) H1) :
  Bl k (aaI C ti) (UW C k g) (UT C k tt) (UL C k te) σ H Q:=
 ⟨W,ok,p,F,_,rs,ht,λJ H1 zq=>by
  obtain ⟨n,item,p1,F1,GK,s1,Ql,jq,I,i0,hn,istep,Em⟩:=zq
  have lp:p1.length=σ.length:=GK.len
  refine ⟨λi m ys σ2 H2=>m=n - i/\i<=n/\∃O p2 F2 bs ms,RS ((C.add O).sh k) p2 σ2 F2 H2/\cW C O/\aP F1 F2/\jM (List.replicate k none++p1) p2/\σ2.drop k=σ/\ys=bs.map V.ref/\vB O bs ms/\R4 W O/\I i ms p2,⟨n,by simp,yu _,W,_,F1,[],[],GK.shift,ok,.refl _,.refl _,by simp,rfl,.nil,λ_ _ h=>h,i0⟩,?_⟩
  rintro i m ys σ2 H2 ⟨rfl,hi,O,p2,F2,bs,ms,D,B,s2,Qk,d2,rfl,U,Y,i2⟩
  have hkp:k<=p2.length:=by
   have:=Qk.1
   rw [zj,zD] at this
   omega
  by_cases Z:i<n
  ·obtain ⟨hl,st⟩:=istep i ms p2 Z i2
   refine .inr ⟨jq.go i F2 H2 D.sub s2 Z,?_,λys' σ' H'=>∃W' p' F' bs' ms',RS ((C.add W').sh k) p' σ' F' H'/\cW C W'/\aP F1 F'/\jM (List.replicate k none++p1) p'/\σ'.drop k=σ/\ys'=bs'.map V.ref/\vB W' bs' ms'/\R4 W W'/\I (i+1) ms' p',λ_ _ _ h=>⟨n - (i+1),by omega,rfl,Z,h⟩,λx H' y=>?_⟩
   ·rw [z9,U.len];exact Nat.lt_of_le_of_lt hl (zE (zE Z hn) (by decide))
   obtain ⟨F3,JH,s3,r3⟩:=JQ.out (C:=(C.add O).sh k) jq D s2 Z y
   refine ⟨O,B,p2,F3,item i,_,JH,r3,st,λσ4 H4 zq=>?_⟩
   obtain ⟨p4,F4,RJ,s4,sh4,d4,q4⟩:=zq
   refine ⟨O,B,qM RJ q4 λb p5 F5 H5 rs5 s5 sh5 q5=>?_⟩
   have s15:aP F1 F5:=s2.trans (s3.trans (s4.trans s5))
   refine dZ (λq5=>?_) (λq5=>?_) q5
   ·refine ⟨O,B,Ro rs5 q5 λr6 p6 v6 F6 H6 rs6 s6 sh6 er6 zq=>?_⟩
    obtain ⟨ns,hz,q6⟩:=zq
    subst hz
    obtain ⟨z,vs,rfl,y1,y2,y3,y4,y5⟩:=er6
    rw [y4.ints] at y3
    obtain ⟨rs7,ok7⟩:=RS.take (C:=C.sh k) (W:=O) rs6 B.sh y1 y2 y3 y5
    have w0:O z=none:=(iI (C:=C.sh k) y2).1
    refine ⟨_,p6,F6,bs++[z],ms++[ns],rs7,ok7.ad8,s15.trans s6,Qk.trans (sh4.trans (sh5.trans sh6)),d4.trans d2,by rw [yf];rfl,U.snoc w0,λb o e=>?_,q6⟩
    have hb:b≠z:=λe'=>by have:=Y _ _ e;rw [e',w0] at this;cases this
    rw [aJ hb];exact Y b o e
   ·exact ⟨O,p5,F5,bs,ms,rs5,B,s15,Qk.trans (sh4.trans sh5),d4.trans d2,rfl,U,Y,q5⟩
  ·have e:i=n:=by omega
   subst e
   refine .inl ⟨jq.stop F2 H2 D.sub s2,λA hA=>?_⟩
   have JH:=(D.laid (o:=.lst (bs.map V.ref)) hA).rE hkp
   rw [d2] at JH
   obtain ⟨f1,f2,f3⟩:=(D.rE hkp).free hA
   rw [d2] at f3
   obtain ⟨RJ,ok4⟩:=JH.take B f1 f2 aL f3
   have nA:∀b o,O b=some o->b≠A:=λb o e z=>by
    have:=D.wH (C:=C.sh k) B.sh e
    rw [z,hA] at this;cases this
   have ni:A ∉ bs:=λz=>by
    obtain ⟨ns,e⟩:=U.mem z
    exact nA A _ e rfl
   exact hq A _ _ F2 _ RJ ok4 (s1.trans s2) (Em ms p2 i2 A _ ⟨bs,aL,ni,U.more ni⟩ λb o e=>by rw [aJ (nA b o (Y b o e))];exact Y b o e)⟩
def ad9 (i:Nat) (t:Hp->aO->(Addr->Hp->aO->Prop)->Prop):nj:=λE W p=>t W p λx n p1=>lM p1 i=true/\E.nx n (p1.set i (some (.d (.atom (.ref x)))))
theorem aaN {X:Cx} (h:∀W,cW C W->PG X tg (nQ ((C.add W).sh k) k g)):PG X tg (UW C k g):=λpins s σ H v u Q I r n=>by obtain ⟨W,ok,z⟩:=n;exact h W ok pins s σ H v u Q I r z
theorem aaO {X:Cx} (h:∀W,cW C W->v9 X ifs (gf ((C.add W).sh k) t)):v9 X ifs (UT C k t):=λpins s σ H Q I n=>by obtain ⟨W,ok,z⟩:=n;exact h W ok pins s σ H Q I z
theorem aaP {X:Cx} (h:∀W,cW C W->PE X e (m9 ((C.add W).sh k) t)):PE X e (UL C k t):=λpins s σ H Q I n=>by obtain ⟨W,ok,z⟩:=n;exact h W ok pins s σ H Q I z
theorem Nk {n:Pos} (hN:X.N.Nodup) (J:X.N[i]? = some x) (Y:Loc X.env.scope x) (S:aU X scope N k) (hc:X.calm=true) (hi:∀W,cW C W->PI X tg iter (vh (C.add W) (ti W)))
  (hg:∀W,cW C W->∀Z s H fp,PG (bz X scope N Z s H fp) tg (nQ ((C.add W).sh k) k g)) (D:∀W,cW C W->∀Z s H fp,v9 (bz X scope N Z s H fp) ifs (gf ((C.add W).sh k) tt)) (he:∀W,cW C W->∀Z s H fp,PE (bz X scope N Z s H fp) elt (m9 ((C.add W).sh k) te))
  (I:swapsWith (.ListComp elt [⟨tg,iter,ifs,0⟩] scope pos2) (some (.Name x n)) pos.line X.env=pure true:=by rfl)
  (hs:∀x,foldedSetIterable iter X.env x=pure x:=by intro _;rfl) (hf:X.fn x=true\/X.env.scope.names.lookup x=some .local:=by first|exact .inl rfl|exact .inr rfl|assumption) :
  PS X (.Assign [.Name x n] (.ListComp elt [⟨tg,iter,ifs,0⟩] scope pos2) pos) (kJ C (ad9 i (Nj k ti g tt te))):=
 VS.mk (sI hN J Y S hc (aaL hi) (λZ s H fp=>aaN λW ok=>hg W ok Z s H fp) (λZ s H fp=>aaO λW ok=>D W ok Z s H fp) (λZ s H fp=>aaP λW ok=>he W ok Z s H fp) I hs hf) λW p σ F H E U ok D=>Ji U ok D λx W1 p1 F1 H1 z B O ⟨hn,q⟩=>
  ⟨W1,_,F1,z.uN hn (.atom _),B,O,q⟩
end
def pP (i:Int) (n:Nat):List Int:=(List.range n).map λ(k:Nat)=>i+(k:Int)
theorem jU (i:Int) (n:Nat):(pP i n).length=n:=by unfold pP;rw [z9,List.length_range]
theorem Cj (i:Int) (n k:Nat) (h:k<n):(pP i n)[k]? = some (i+(k:Int)):=by unfold pP;rw [zN,List.getElem?_range h];rfl
section
variable {X:Cx} {C:Pc} {a b c e o k:Expr} {cI:TAQ} {pos ps ps2:Pos} {K:PySem.W.Frag} {F:Hp} {es:List Expr}
theorem R5 (ns:List Int):∀(us:List Value),us.length=ns.length->(∀(j:Nat) v (n:Int),us[j]? = some v->ns[j]? = some n->∃t,v=Value.int n t)->Vals (ns.map V.int) us:=by
 induction ns with
 | nil=>intro us h _;cases us with|nil=>exact .nil|cons u r=>cases h
 | cons n ns ih=>
  intro us h z
  cases us with
  | nil=>cases h
  | cons u us=>
   obtain ⟨t,e⟩:=z 0 u n rfl rfl
   exact .cons ⟨t,e⟩ (ih us (by simpa using h) λj v m h1 h2=>z (j+1) v m (by simpa using h1) (by simpa using h2))
def Jj (n:TA):TE:=λσ H Q=>n σ H λvs H1=>∃i j:Int,vs=[.int i,.int j]/\-(2 ^ 62)<=i/\i<2 ^ 62/\-(2 ^ 62)<=j/\j<2 ^ 62/\(j - i).toNat<=100000/\∀l,H1 l=none->Q (.ref l) (upd H1 l (.lst ((pP i (j - i).toNat).map V.int)))
theorem Ck (hc:X.calm=true) (hg:Gl X "list") (hm:X.mg "list"=none) (hg2:Gl X "range") (U:X.mg "range"=none) (ha:PA X [a,b] ta) (hs:starEach [a,b] X.env=[(false,eval a X.env),(false,eval b X.env)]:=by rfl) (D:starEach [b] X.env=[(false,eval b X.env)]:=by rfl) :
  PE X (.Call (.Name "list" p1) [.Call (.Name "range" p2) [a,b] [] pos2] [] pos) (Jj ta):=by
 intro pins s σ H Q I h
 refine Call_ (gM (u:=.type "list") I hg hm (by kernel_rfl) (zW ?_ rfl rfl))
 refine Calls.spliced_cons ?_
 refine Call_ (gM I hg2 U boot_range (zW (bu (ha pos2 pins s σ H _ I h) λus J zq=>?_) (by rw [hs,D]) (by rw [D];rfl)))
 obtain ⟨vs,H1,I1,r1,q1⟩:=zq
 obtain ⟨i,j,e,i0,i1,j0,j1,hz,q⟩:=q1
 subst e
 cases r1 with
 | cons r rr=>
  cases rr with
  | cons r' rr=>
   cases rr
   obtain ⟨t,rfl⟩:=r
   obtain ⟨t',rfl⟩:=r'
   refine call_range_2 ?_
   refine Calls.spliced_nil ?_
   have I2:Inv X pins σ H1 { J with heap:=J.heap.push { cls:=.type "range",data:=.fields #[.int i t,.int j t',.int 1 J.toks] },toks:=J.toks+1 }:=I1.kept λb o e=>zu _ e
   refine call_list_range (n:=(j - i).toNat) (I2.ok.hd hc) (IsRange.new ..) (small_one i0 i1 j0 j1) (by rw [rangeSize_one];split<;>omega) (by omega) λh' tk z c' kp e B=>?_
   obtain ⟨O,Z⟩:=B
   have hl:z.toList.length=(j - i).toNat:=by rw [yI,O]
   have rv:Vals ((pP i (j - i).toNat).map V.int) z.toList:=by
    refine R5 _ _ (by rw [hl,jU]) λk v n hk hn=>?_
    have Y:k<(j - i).toNat:=by rw [<-hl];exact (zp.mp hk).1
    rw [Cj i _ k Y] at hn
    cases hn
    obtain ⟨t,e⟩:=Z k v (by rw [<-Array.getElem?_toList];exact hk)
    exact ⟨t,by rw [e];congr 1;omega⟩
   exact ⟨.ref _,_,I2.laid (t':=tk) kp (zx _) (show bK X.prog X.w _ h' _ (.lst _) from ⟨by rw [z9,jU,xn];omega,z.toList,c',rv,by rw [Array.toArray_toList];exact e⟩),rfl,q _ (I2.hok.fresh (zx _))⟩
def pQ (n:TAQ):TN:=λp Q=>n p λes p1=>∃e f i j,es=[e,f]/\lk p1 e=.int i/\lk p1 f=.int j/\(-(2 ^ 62)<=i/\i<2 ^ 62/\-(2 ^ 62)<=j/\j<2 ^ 62)/\(j - i).toNat<=100000/\Q (.ro ((pP i (j - i).toNat).map D.int)) p1
theorem Ey (hc:X.calm=true) (hg:Gl X "list") (hm:X.mg "list"=none) (D:Gl X "range") (B:X.mg "range"=none) (ha:PA X [a,b] (gJ C cI)) (hs:starEach [a,b] X.env=[(false,eval a X.env),(false,eval b X.env)]:=by rfl) (z:starEach [b] X.env=[(false,eval b X.env)]:=by rfl):PE X (.Call (.Name "list" p1) [.Call (.Name "range" p2) [a,b] [] pos2] [] pos) (m9 C (pQ cI)):=
 QN.mk (Ck hc hg hm D B ha hs z) λp σ F H R Z ht=>dR Z ht λes1 p1 U F1 H1 n Y sh I O=>by
  obtain ⟨e1,e2,i,j,h1,h2,h3,⟨h4,h5,h6,h7⟩,h8,q⟩:=O
  obtain ⟨v,w,rfl,er,J⟩:=uL I h1
  exact ⟨i,j,by rw [aY er h2,aY J h3],h4,h5,h6,h7,h8,λl hl=>ig n Y sh hl (aN.wu _) q⟩
end
theorem XS (n:Int):vd (.int n)=.int n:=rfl
theorem XX (x:Addr):vd (.ref x)=.atom (.ref x):=rfl
theorem bx (h:∀k:Hp->aO->Prop,(∀W' p',R E W' p'->k W' p')->t { E with nx:=k } W p):wW t R E W p:=h (R E) (λ_ _ h=>h)
theorem jb (h:t { E with nx:=R E } W p):wW t R E W p:=h
theorem mz {E:jC} {item:Nat->D} (z:∀Q:Nat->(Nat->D)->aO->Prop,Q n item p1->ti W p Q) (I:Nat->Hp->aO->Prop) (h0:I 0 W p1)
  (B:∀i W2 p2,i<n->I i W2 p2->g W2 (item i) p2 λp3=>tb { E with nx:=I (i+1),ct:=I (i+1),bk:=E.nx } W2 p3) (hd:∀W2 p2,I n W2 p2->E.nx W2 p2):R0 ti g tb E W p:=z _ ⟨I,h0,B,hd⟩
theorem Nm (h:ti W p λn item p1=>R0 (λ_ _ Q=>Q n item p1) g tb E W p1):R0 ti g tb E W p:=h
theorem Np {E:jC} (I:Hp->aO->Prop) (n:aO->Nat) (h0:I W p)
  (z:∀W1 p1,I W1 p1->c W1 p1 λb p2=>if b=true then tb { E with nx:=λW q=>I W q/\n q<n p1,ct:=λW q=>I W q/\n q<n p1,bk:=E.nx } W1 p2 else E.nx W1 p2):M8 c tb E W p:=⟨I,n,h0,z⟩
theorem R6 {k:Nat} {item:Nat->D} (z:∀Q:Nat->(Nat->D)->aO->Prop,Q n item p1->ti W p Q) (J:n<=100000) (I:Nat->List (List Int)->aO->Prop) (h0:I 0 [] (List.replicate k none++p1))
  (O:∀i ys p2,I i ys p2->ys.length<=i)
  (B:∀i ys p2,i<n->I i ys p2->g (item i) p2 λp3=>tt p3 λb p4=>if b=true then te p4 λr p5=>∃ns:List Int,r=.ro (ns.map D.int)/\I (i+1) (ys++[ns]) p5 else I (i+1) ys p4)
  (hd:∀ys p2,I n ys p2->∀x W1,JM W1 x ys->R4 W W1->R x W1 (p2.drop k)):Nj k ti g tt te W p R:=
 z _ ⟨I,h0,J,λi ys p2 hi h=>⟨O i ys p2 h,B i ys p2 hi h⟩,hd⟩
theorem Nq {α:Type}:∀{l:List α} {i j:Nat},l.Nodup->(h1:i<l.length)->(h2:j<l.length)->l[i]=l[j]->i=j
 | [],i,j,_,h1,_,_=>absurd h1 (Nat.not_lt_zero _)
 | x::l,0,0,_,_,_,_=>rfl
 | x::l,0,j+1,nd,h1,h2,e=>by
  rw [yh] at nd
  simp at e h2
  exact absurd (e▸yg h2) nd.1
 | x::l,i+1,0,nd,h1,h2,e=>by
  rw [yh] at nd
  simp at e h1
  exact absurd (e▸yg h1) nd.1
 | x::l,i+1,j+1,nd,h1,h2,e=>by
  rw [yh] at nd
  simp at e h1 h2
  rw [Nq nd.2 h1 h2 e]
section
variable {W:Hp} {bs:List Addr} {ms:List (List Int)} {a b:Addr}
theorem vB.wr {ns:List Int} (r:vB W bs ms) (D:bs[i]? = some b):vB (upd W b (.lst (ns.map V.int))) bs (ms.set i ns):=by
 refine ⟨by rw [zR];exact r.len,r.nd,λj c n h1 h2=>?_⟩
 by_cases B:j=i
 ·subst B
  rw [D] at h1;cases h1
  have O:j<ms.length:=by rw [<-r.len];exact (zp.mp D).1
  rw [zF O] at h2;cases h2
  exact aL
 ·rw [zi (Ne.symm B)] at h2
  have U:c≠b:=λz=>by
   subst z
   obtain ⟨J,e1⟩:=zp.mp h1
   obtain ⟨I,e2⟩:=zp.mp D
   exact B (Nq r.nd J I (e1.trans e2.symm))
  rw [aJ U];exact r.at_ j c n h1 h2
theorem fu {i:Int} (h0:0<=i) (n:bs[i.toNat]? = some b):gA (bs.map V.ref) i=some (.ref b):=by
 obtain ⟨l,e⟩:=zp.mp n
 unfold gA
 rw [z9,rJ h0 l]
 show (bs.map V.ref)[i.toNat]? = _
 rw [zN,n];rfl
theorem jc {ns:List Int} {i:Int} (h0:0<=i) (h:ns[i.toNat]? = some n):gA (ns.map V.int) i=some (.int n):=by
 obtain ⟨l,e⟩:=zp.mp h
 unfold gA
 rw [z9,rJ h0 l]
 show (ns.map V.int)[i.toNat]? = _
 rw [zN,h];rfl
end
theorem tX (r:Addr) (a b c:Int) (t u v:Tok) (n:¬(!(Builtin.Range.rangeFitsLong a && Builtin.Range.rangeFitsLong b && Builtin.Range.rangeFitsLong c && Builtin.Range.rangeFitsLong (-c) && Builtin.Range.rangeFitsLong (a - c) && Builtin.Range.rangeFitsLong (Builtin.Range.rangeSize a b c)))=true) :
  Meets (Builtin.«range.__reversed__» ⟨[.ref r],[]⟩) (λ_ R s=>s.heap.get? r=some { cls:=.type "range",dict:=none,data:=.fields #[.int a t,.int b u,.int c v],slots:=#[] }/\R (.ok (.ret (Value.ref s.heap.objs.size))) { s with heap:=s.heap.push { cls:=Value.type (if (Builtin.Range.rangeFitsLong a && Builtin.Range.rangeFitsLong b && Builtin.Range.rangeFitsLong c && Builtin.Range.rangeFitsLong (-c) && Builtin.Range.rangeFitsLong (a - c) && Builtin.Range.rangeFitsLong (Builtin.Range.rangeSize a b c))=true then "range_iterator" else "longrange_iterator"),data:=.fields #[rawInt (a+(Builtin.Range.rangeSize a b c - 1) * c),rawInt (Builtin.Range.rangeSize a b c),rawInt (-c)] } }):=
 .of_wp λprog w A R s h=>by obtain ⟨z,g,d,tk,os⟩:=s;obtain ⟨B,h⟩:=h;wp_walk;exact ⟨_,rfl,h⟩
def G5 (lo:Int) (n:Nat):Obj:={ cls:=.type "range_iterator",data:=.fields #[rawInt (lo+(n:Int) - 1),rawInt (n:Int),rawInt (-1)] }
theorem qP:isSubtype (.type "range_iterator") (.type "reversed")=pure false:=by rw [isSubtype_type];kernel_rfl
section
variable {prog:Program} {w:World} {A:Around} {E:Value->Shared->Prop} {s:Shared}
theorem tY {r:Addr} {lo hi:Int} {t u v:Tok} {Q:Value->Shared->Prop} (n:IsRange s.heap r lo hi 1 t u v) (h1:-(2 ^ 62)<=lo) (h2:lo<2 ^ 62) (h3:-(2 ^ 62)<=hi) (h4:hi<2 ^ 62)
  (h:Q (.ref s.heap.objs.size) { s with heap:=s.heap.push (G5 lo (hi - lo).toNat) }):wpAny (model prog w) A (call (.builtin "range.__reversed__") [.ref r]) Q E s:=by
 have hT:s.TypeIs (.ref r) "range":=⟨_,n,rfl⟩
 have z:Builtin.Range.rangeSize lo hi 1=((hi - lo).toNat:Int):=by rw [rangeSize_one];split<;>omega
 have sm:(Builtin.Range.rangeFitsLong lo && Builtin.Range.rangeFitsLong hi && Builtin.Range.rangeFitsLong 1 && Builtin.Range.rangeFitsLong (-1) && Builtin.Range.rangeFitsLong (lo - 1) && Builtin.Range.rangeFitsLong (Builtin.Range.rangeSize lo hi 1))=true:=by
  rw [z]
  simp only [Builtin.Range.rangeFitsLong,yy,yw]
  omega
 refine x9 F.slot_range_reversed hT F.entry_range_reversed (F.args_range_reversed_1 _) (tX r lo hi 1 t u v (by rw [sm];decide)) ⟨n,?_⟩
 rw [zo sm,z]
 have e:lo+(((hi - lo).toNat:Int) - 1) * 1=lo+((hi - lo).toNat:Int) - 1:=by omega
 rw [e]
 exact h
theorem mD {r : Addr} {lo hi : Int} {t u v : Tok} {Q₁ : Value → Shared → Prop} (n : IsRange s.heap r lo hi 1 t u v) (h1 : -(2 ^ 62) ≤ lo) (h2 : lo < 2 ^ 62) (h3 : -(2 ^ 62) ≤ hi) (h4 : hi < 2 ^ 62)
    (h : Q₁ (.ref s.heap.objs.size) { s with heap := s.heap.push (G5 lo (hi - lo).toNat) }) :
    codeAny (model prog w) A (.call (.builtin "reversed.__new__") ⟨[.type "reversed", .ref r], []⟩) (wants Q₁ E) s := by
  have hT : s.TypeIs (.ref r) "range" := ⟨_, n, rfl⟩
  refine codeAny_of_tree ?_
  show wpAny _ A.in1 (do checkBuiltinCall "reversed.__new__" ⟨[.type "reversed", .ref r], []⟩; again (.builtin "reversed.__new__" ⟨[.type "reversed", .ref r], []⟩)) _ _ s
  refine zd (wpAny_of_eq (F.newCall_reversed_1 _) (zB ⟨plainId_quiet F.plain_reversed_new _, codeAny_builtin F.entry_reversed_new ?_⟩))
  rw [Around.under_plainId F.plain_reversed_new _]
  unfold Builtin.«reversed.__new__»
  refine zd (wpAny_of_eq (newClass_reversed _) ?_)
  try dsimp only
  refine zd (wpAny_of_eq (a := ()) (by first | rfl | kernel_rfl) ?_)
  refine zd (wpAny_of_eq (a := ()) (by first | rfl | kernel_rfl) ?_)
  try dsimp only
  refine zd (wpAny_specialOf hT F.slot_range_reversed.lookup ?_)
  try dsimp only
  refine zd (wpAny_of_eq (F.slot_range_reversed.bind _) ?_)
  try dsimp only
  first
  | rw [zh (show ¬ ((Value.builtin "range.__reversed__" == Value.none) = true) from y9)]
  | (show wpAny _ _ (if (Value.builtin "range.__reversed__" == Value.none) = true then _ else _) _ _ _; rw [zh (show ¬ ((Value.builtin "range.__reversed__" == Value.none) = true) from y9)])
  refine zd (wpAny_rule ?_)
  refine zd (m := runValue (.call (.builtin "range.__reversed__") ⟨[.ref r], []⟩)) (show wpAny _ _ (call (.builtin "range.__reversed__") [.ref r]) _ _ _ from tY n h1 h2 h3 h4 ?_)
  first
  | exact zB h
  | exact zd (zB (zB h))
theorem lC {r:Addr} {lo hi:Int} {t u v:Tok} {Q:Value->Shared->Prop} (z:IsRange s.heap r lo hi 1 t u v) (h1:-(2 ^ 62)<=lo) (h2:lo<2 ^ 62) (h3:-(2 ^ 62)<=hi) (h4:hi<2 ^ 62)
  (h:Q (.ref s.heap.objs.size) { s with heap:=s.heap.push (G5 lo (hi - lo).toNat) }):wpAny (model prog w) A (call (.type "reversed") [.ref r]) Q E s:=by
 refine callType_other (U:="range_iterator") (Q₁:=λobj n=>obj=.ref s.heap.objs.size/\n={ s with heap:=s.heap.push (G5 lo (hi - lo).toNat) }) (by decide) F.create_reversed ⟨_,_,F.mro_reversed⟩ F.made_reversed qP (F.typeCall_reversed_1 _) (mD z h1 h2 h3 h4 ⟨rfl,rfl⟩) ?_
 rintro obj n ⟨rfl,rfl⟩
 exact ⟨⟨_,zz _ rfl,rfl⟩,h⟩
end
section
variable {X:Cx} {C:Pc} {cI:TAQ} {K:PySem.W.Frag} {F:Hp}
def aaQ (n:TA):TI:=λσ H R=>n σ H λvs H1=>∃i j:Int,vs=[.int i,.int j]/\(-(2 ^ 62)<=i/\i<2 ^ 62/\-(2 ^ 62)<=j/\j<2 ^ 62)/\R (Zb (i+((j - i).toNat:Int) - 1) (-1) (j - i).toNat) H1
theorem R7 (hg:Gl X "reversed") (hm:X.mg "reversed"=none) (D:Gl X "range") (B:X.mg "range"=none) (ha:PA X [a,b] ta) (hs:starEach [a,b] X.env=[(false,eval a X.env),(false,eval b X.env)]:=by rfl) (n:starEach [b] X.env=[(false,eval b X.env)]:=by rfl) :
  PI X tg (.Call (.Name "reversed" p1) [.Call (.Name "range" p2) [a,b] [] pos2] [] pos) (aaQ ta):=by
 intro pins s σ H R I h
 refine Call_ (gM (u:=.type "reversed") I hg hm (by kernel_rfl) (zW ?_ rfl rfl))
 refine Calls.spliced_cons ?_
 refine Call_ (gM I D B boot_range (zW (bu (ha pos2 pins s σ H _ I h) λus z J=>?_) (by rw [hs,n]) (by rw [n];rfl)))
 obtain ⟨vs,H1,I1,U,q1⟩:=J
 obtain ⟨i,j,e,⟨i0,Z,j0,j1⟩,q⟩:=q1
 subst e
 cases U with
 | cons r rr=>
  cases rr with
  | cons r' rr=>
   cases rr
   obtain ⟨t,rfl⟩:=r
   obtain ⟨O,rfl⟩:=r'
   refine call_range_2 ?_
   refine Calls.spliced_nil ?_
   have I2:Inv X pins σ H1 { z with heap:=z.heap.push { cls:=.type "range",data:=.fields #[.int i t,.int j O,.int 1 z.toks] },toks:=z.toks+1 }:=I1.kept λb o e=>zu _ e
   refine lC (IsRange.new ..) i0 Z j0 j1 ?_
   exact wpAny_pyIter_rangeiter (zz _ rfl) (J0 I2 (λY=>rY Y _ (-1) _) (Az (zz _ rfl)) q)
def X3 (n:TAQ):uP:=λp Q=>n p λes p1=>∃e f i j,es=[e,f]/\lk p1 e=.int i/\lk p1 f=.int j/\(-(2 ^ 62)<=i/\i<2 ^ 62/\-(2 ^ 62)<=j/\j<2 ^ 62)/\Q (j - i).toNat (λk=>.int (i+((j - i).toNat:Int) - 1 - k)) p1
theorem X4 (hg:Gl X "reversed") (hm:X.mg "reversed"=none) (D:Gl X "range") (B:X.mg "range"=none) (ha:PA X [a,b] (gJ C cI)) (hs:starEach [a,b] X.env=[(false,eval a X.env),(false,eval b X.env)]:=by rfl) (z:starEach [b] X.env=[(false,eval b X.env)]:=by rfl):PI X tg (.Call (.Name "reversed" p1) [.Call (.Name "range" p2) [a,b] [] pos2] [] pos) (vh C (X3 cI)):=
 QI.mk (R7 hg hm D B ha hs z) λp σ F H R Z ht=>dR Z ht λes1 p1 U F1 H1 n Y sh I O=>by
  obtain ⟨e1,e2,i,j,h0,h1,h2,h3,q⟩:=O
  obtain ⟨v,w,rfl,er,J⟩:=uL I h0
  exact ⟨i,j,by rw [aY er h1,aY J h2],h3,_,_,p1,F1,n,Y,sh,El λ_=>by omega,q⟩
end
section
variable {X:Cx} {C:Pc} {st:Stmt} {rest:List Stmt} {t:nj} {XE:Addr->aO->Prop} {W:Hp}
def Nr (t:nj):nj:=λE W p=>t { E with nx:=λ_ _=>False } W p
theorem v_cut (h1:PS X st (kJ C t)):gw X (st::rest) (kJ C (Nr t)):=λpins s σ H U I B=>by
 obtain ⟨W,p,F,E,D,ok,J,l⟩:=B
 refine wpAny_execs_cons (bu (h1 pins s σ H _ I ⟨W,p,F,{ E with nx:=λ_ _=>False },D,ok,J,Ends.Le.refl _⟩) λf O q=>?_)
 cases f with
 | next=>obtain ⟨_,_,_,_,_,_,_,_,_,z⟩:=q;exact z.elim
 | ret u=>obtain ⟨v,σ',H',n,r,q⟩:=q;exact ⟨v,σ',H',n,r,l.rt _ _ q⟩
 | brk=>obtain ⟨σ',H',n,q⟩:=q;exact ⟨σ',H',n,l.bk _ _ q⟩
 | cont=>obtain ⟨σ',H',n,q⟩:=q;exact ⟨σ',H',n,l.ct _ _ q⟩
theorem GX.un (ok:cW C W) {z:Addr} {n:St} {H:Hp} (h:GX (C.add W) XE z n H):GX C XE z n H:=let ⟨p,F,rs,q⟩:=h;⟨p,F,rs.un ok,q⟩
theorem wj.add (n:wj X (GX C XE)) (ok:cW C W):wj X (GX (C.add W) XE):=λpins σ H s s' a z args I m e h=>n pins σ H s s' a z args I m e (GX.un ok h)
end
def kOf:D->Option Key
 | .int i=>some (.inl i)
 | .str x=>some (.inr x)
 | _=>none
def aaR:List D->Option (List Key)
 | []=>some []
 | d::ds=>match kOf d,aaR ds with
  | some k,some ks=>some (k::ks)
  | _,_=>none
def R8:D->Option V
 | .int n=>some (.int n)
 | .str x=>some (.str x)
 | .non=>some .non
 | .bl b=>some (.bl b)
 | _=>none
section
variable {K:PySem.W.Frag} {F:Hp}
theorem R9 {k:Key} (r:Rep K F d v) (h:kOf d=some k):v=kV k:=by
 cases d<;>first|(cases h;cases r;rfl)|cases h
theorem Nt (r:Rep K F d v) (h:R8 d=some u):v=u:=by
 cases d<;>first|(cases h;cases r;rfl)|cases h
end
section
variable {X:Cx} {C:Pc} {a b c e o k:Expr} {es:List Expr} {pos:Pos} {K:PySem.W.Frag} {p:aO} {σ:St} {F H:Hp} {st:Stmt} {t:nj}
theorem R_ (n:lA C.K p σ F e1 v) (h:R8 (lk p e1)=some u):v=u:=by
 cases e1 with
 | fz x=>exact Nt n h
 | ow i=>
  obtain ⟨⟨s,h1,m⟩,h2⟩:=n
  have z:lk p (.ow i)=s.val:=by show (match p[i]? with|some (some s)=>s.val|_=>.non)=_;rw [h1]
  rw [z] at h
  cases s<;>first|(cases m;done)|(cases h;done)
theorem X5 {k:Key} (n:lA C.K p σ F e1 v) (h:kOf (lk p e1)=some k):v=kV k:=by
 cases e1 with
 | fz x=>exact R9 n h
 | ow i=>
  obtain ⟨⟨s,h1,m⟩,h2⟩:=n
  have z:lk p (.ow i)=s.val:=by show (match p[i]? with|some (some s)=>s.val|_=>.non)=_;rw [h1]
  rw [z] at h
  cases s<;>first|(cases m;done)|(cases h;done)
def aea:V->List V->Hp->VK->Prop:=λx vs H Q=>∃a y d o,x=.ref a/\vs=[y,d]/\DR H a y o/\Q (o.getD d) H
theorem X6 (hu:X.A.units+64<cLine):Uq X "dict.get" aea:=by
 intro pins s σ H x vs v Z Q I J O h
 obtain ⟨a,y,d,o,rfl,rfl,g,q⟩:=h
 cases J
 cases O with
 | @cons _ u1 _ us' r1 t=>
  cases t with
  | @cons _ u2 _ ahy r2 t=>
   cases t
   ·obtain ⟨U,k,e,Y,l⟩:=g
    subst Y
    obtain ⟨z,hd,vs,D,dd⟩:=KH I.hok e
    refine call_meetsIn PySem.F.slot_dict_get dd.typeIs PySem.F.entry_dict_get (PySem.F.args_dict_get_3 _ _ _) (meets_dict_get_default (fX X.prog X.w) a (Gq r1) hd u2) ⟨_,dd.mapOf,?_⟩
    refine ⟨o.getD d,H,I.tok _,?_,q⟩
    have n:=D.val k
    rw [<-l] at n
    cases o with
    | none=>
     cases B:valueAt vs k with
     | none=>exact r2
     | some w=>rw [B] at n;exact n.elim
    | some v'=>
     cases B:valueAt vs k with
     | none=>rw [B] at n;exact n.elim
     | some w=>rw [B] at n;exact n
def Jk:List Key->List D->Key->Option D
 | k::ks,d::ds,j=>if k=j then some d else Jk ks ds j
 | _,_,_=>none
theorem Cm {K:PySem.W.Frag} {F:Hp}:∀{n:List Key} {ds:List D} {vs:List V},aN K F ds vs->n.length=vs.length->(match Jk n ds j,jL (n.zip vs) j with|some d,some v=>Rep K F d v|none,none=>True|_,_=>False)
 | [],[],_,.nil,_=>True.intro
 | [],_::_,_,.cons _ _,h=>by cases h
 | _::_,[],_,.nil,h=>by cases h
 | k::n,d::ds,_,.cons (v:=v) (vs:=vs) r t,h=>by
  have z:=Cm (j:=j) t (by simpa using h)
  rw [List.zip_cons_cons]
  unfold Jk
  by_cases e:k=j
  ·rw [zo e,nJ (p:=(k,v)) e];exact r
  ·rw [zh e,nM (p:=(k,v)) e];exact z
variable {cI:TAQ} {apos ps:Pos}
def Nu (z:TQ) (B:TAQ):TQ:=λp Q=>z p λe1 p1=>(∃n ds,lk p1 e1=.lK n ds)/\B p1 λes p2=>∃e2 x n ds k,es=[e2,.fz x]/\lk p2 e1=.lK n ds/\kOf (lk p2 e2)=some k/\Q (.fz ((Jk n ds k).getD x)) p2
theorem X7 {a2:Expr} (hK:X.K=C.K) (hu:X.A.units+64<cLine) (ho:PE X o (Up C to)) (ha:PA X [e,a2] (gJ C cI))
  (J:attributeBase o "get" X.env (eval o X.env)=eval o X.env:=by rfl)
  (hfew:((backTo pos (starEach [e,a2] X.env)).all (λx=>!x.1) && (backToKw pos (keywordEach [] X.env)).all (λx=>x.1.isSome)
   && decide ([e,a2].length+([]:List Keyword).length+(if ([]:List Keyword).isEmpty then 0 else 1)<30))=true:=by rfl)
  (I:(apos.endLine == pos.line)=true:=by rfl) (hs:starEach [e,a2] X.env=(false,eval e X.env)::starEach [a2] X.env:=by rfl) (B:(backTo pos (starEach [a2] X.env)).any (·.1)=false:=by rfl):PE X (.Call (.Attribute o "get" apos) [e,a2] [] pos) (Up C (Nu to cI)):=by
 refine QE.mk (Gk PySem.F.plainAttrs_dict PySem.F.slot_dict_get PySem.F.type_dict_get (X6 hu) ho ha J hfew I hs B) λp σ F H R rs ht=>?_
 rw [hK]
 refine up1 rs ht λe1 p1 v1 F1 H1 Z s1 sh G4 zq=>?_
 obtain ⟨⟨ks,ds,hd⟩,ht⟩:=zq
 obtain ⟨a1,vs,rfl,g,l,r⟩:=wB Z G4 hd
 refine ⟨.inr (.inr ⟨rfl,_,g⟩),dR Z ht λes2 p2 vs2 F2 H2 Y s2 U BJ zq=>?_⟩
 obtain ⟨e2,x,n,ds2,k,h2,h3,h4,q⟩:=zq
 obtain ⟨v,w,rfl,er,er'⟩:=uL BJ h2
 obtain ⟨a2,D,e5,g2,l2,r2⟩:=wB Y (G4.mono s2 U) h3
 cases e5
 have O:=Cm (j:=k) r2 l2
 refine ⟨a1,v,w,jL (n.zip D) k,rfl,rfl,?_,?_⟩
 ·rw [X5 er h4]
  exact DR.k g2
 ·refine aZ Y (s1.trans s2) (sh.trans U) ?_ q
  cases hd:Jk n ds2 k with
  | none=>
   cases hv:jL (n.zip D) k with
   | none=>exact er'
   | some z=>rw [hd,hv] at O;exact O.elim
  | some y=>
   cases hv:jL (n.zip D) k with
   | none=>rw [hd,hv] at O;exact O.elim
   | some z=>rw [hd,hv] at O;exact O
end
section
variable {X:Cx} {C:Pc} {a b c e o:Expr} {ta tb:TQ} {cI:TAQ} {pos ps apos:Pos} {K:PySem.W.Frag}
theorem aaS (Z:PE X a (Up C ta)) (Y:PE X b (Up C tb)) (U:behindInMarks .In b=false:=by rfl):PE X (.Compare a [.In] [b] pos) (Up C (RV (λk=>k) ta tb)):=
 QE.mk (qY Ie Z Y U) λp σ F H R J O=>sV J O λe1 e2 p1 v1 v2 F1 H1 n I sh B z D=>by obtain ⟨x,y,h1,h2,q⟩:=D;exact ⟨x,y,bI B h1,bI z h2,aZ n I sh (.bl _) q⟩
def aeb:V->Option Int->Option Int->Hp->VK->Prop:=λx lo hi H Q=>∃u:Str,x=.str u/\u.length<=sizeLine/\Q (.str (Txt.slice u lo hi)) H
theorem X8:SlR X aeb:=by
 intro pins s σ H x v B z lo hi sl Q I D O pl n h
 obtain ⟨u,rfl,J,q⟩:=h
 obtain ⟨t,rfl⟩:=D
 have go:∀(l r:Option (Int × Tok)),B=partValue l->z=partValue r->l.map (·.1)=lo->r.map (·.1)=hi->wpAny (model X.prog X.w) X.A (getItem (.str u t) (.ref sl)) (EP X pins σ Q) X.xe s:=λl r e1 e2 e3 U=>by
  subst e1;subst e2;subst e3;subst U
  exact wpAny_getItem_str_slice (l:=l) (u:=r) (st:=none) O rfl (post_val_or_str ⟨zY (Txt.slice_le u _ _) J,λY k=>⟨.str _,H,I.tok k,⟨_,rfl⟩,q⟩⟩)
 refine ⟨"str",_,F.slot_str_getitem.lookup,typeIs_str _ _ _,?_⟩
 cases pl with
 | none=>cases n with
  | none=>exact go none none rfl rfl rfl rfl
  | int j t2=>exact go none (some (j,t2)) rfl rfl rfl rfl
 | int i t1=>cases n with
  | none=>exact go (some (i,t1)) none rfl rfl rfl rfl
  | int j t2=>exact go (some (i,t1)) (some (j,t2)) rfl rfl rfl rfl
def X_ (B:TQ) (z th:TOQ):TQ:=λp Q=>B p λe1 p1=>z p1 λlo p2=>th p2 λhi n=>∃u:Str,lk n e1=.str u/\u.length<=100000/\Q (.fz (.str (Txt.slice u lo hi))) n
theorem G6 {lo hi:Option Expr} {Z th:TOQ} {U:Pos} (he:PE X e (Up C ta)) (hl:PO X lo (WM C Z)) (hu:PO X hi (WM C th)):PE X (.Subscript e (.Slice lo hi none U) pos) (Up C (X_ ta Z th)):=
 QE.mk (Bd X8 he hl hu) λp σ F H R rs ht=>up1 rs ht λe1 p1 v1 F1 H1 O s1 D Y q1=>by
  refine ⟨p1,F1,_,O,q1,λlo H2 B=>?_⟩
  obtain ⟨U,F2,J,s2,z,q2⟩:=B
  refine ⟨U,F2,_,J,q2,λhi H3 B=>?_⟩
  obtain ⟨p3,F3,I,s3,n,u,h1,h2,q3⟩:=B
  exact ⟨u,bI (Y.mono (s2.trans s3) (z.trans n)) h1,h_ h2,aZ I (s1.trans (s2.trans s3)) (D.trans (z.trans n)) (.str _) q3⟩
def aaT (K:PySem.W.Frag):List V->Hp->VK->Prop:=λxs H Q=>∃(a:Addr) (bs:List Bool),xs=[.ref a]/\iV K H a (bs.map V.bl)/\Q (.bl (bs.all id)) H
theorem Cp:∀{bs:List Bool} {n:List Value},Vals (bs.map V.bl) n->n=bs.map Value.bool
 | [],[],_=>rfl
 | b::bs,u::n,h=>by
  cases h with
  | cons h1 h2=>
   cases h1
   rw [Cp (bs:=bs) h2];rfl
theorem Nv (hc:X.calm=true):g_ X (.builtin "all") (aaT X.K):=by
 intro pins s σ H xs us Q I r h
 obtain ⟨a,bs,rfl,hq,q⟩:=h
 obtain ⟨u,rfl,U⟩:=vals1 r
 cases U
 obtain ⟨Y,O,pl,hz⟩:=I.list hq
 have ei:=Cp O
 subst ei
 have D:=pl.isList
 have B:a<s.heap.objs.size:=by obtain ⟨_,e,_⟩:=D;exact zA e
 refine call_all_walk (wpAny_pyIter_list D ⟨s.heap.objs.size,_,_,_,_,_,λi=>(bs.getD i false),rfl,Walks.list (A:=X.A.in1) (I.ok.hd hc) s.heap.objs.size a (zH B) _,⟨⟨_,zz _ rfl,rfl,rfl⟩,D.push _⟩,?_,λh' tk hk=>?_⟩)
 ·intro i v s2 Q2 E2 n hQ
  rw [List.getElem?_toArray,zN] at n
  cases J:bs[i]? with
  | none=>rw [J] at n;cases n
  | some b=>
   rw [J] at n
   cases n
   have e:bs.getD i false=b:=by rw [zw,J];rfl
   dsimp only at hQ
   rw [e] at hQ
   exact yj hQ
 ·have e:((List.range (bs.map Value.bool).toArray.size).all λi=>bs.getD i false)=bs.all id:=by
   rw [zC,z9]
   apply Bool.eq_iff_iff.mpr
   rw [zP,zP]
   constructor
   ·intro h x Z
    obtain ⟨i,hi,e⟩:=yJ Z
    have:=h i (List.mem_range.mpr hi)
    rw [zw,zg hi,e] at this
    exact this
   ·intro h i hi
    rw [List.mem_range] at hi
    rw [zw,zg hi]
    exact h _ (yg hi)
  rw [e]
  refine ⟨.bl _,H,I.kept (t':=tk) λb o g=>hk b o (λz=>?_) (zu _ g),rfl,q⟩
  rcases zm.mp z with e1|z
  ·exact absurd (e1▸zA g) (xi _)
  ·cases z
theorem Jl (h:X.K=K) (n:X.calm=true):g_ X (.builtin "all") (aaT K):=by subst h;exact Nv n
theorem aN.bls:∀{bs:List Bool} {vs:List V},aN K F (bs.map D.bl) vs->vs=bs.map V.bl
 | [],_,.nil=>rfl
 | _::r,_,.cons q t=>by
  cases q
  rw [yb,aN.bls (bs:=r) t]
def Yb (n:TAQ):TQ:=λp Q=>n p λes p1=>∃(e:Ev) (bs:List Bool),es=[e]/\lk p1 e=.lst (bs.map D.bl)/\Q (.fz (.bl (bs.all id))) p1
theorem Yc (hK:X.K=C.K) (Z:X.calm=true) (Y:Gl X "all") (U:X.mg "all"=none) (ha:PA X [e] (gJ C cI)) (he:starEach [e] X.env=(false,eval e X.env)::starEach [] X.env:=by rfl):PE X (.Call (.Name "all" ps) [e] [] pos) (Up C (Yb cI)):=
 QE.mk (eY (Jl hK Z) Y U (by kernel_rfl) ha (he:=he)) λp σ F H R J O=>dR J O λes1 p1 D F1 H1 n I sh z B=>by
  obtain ⟨e1,bs,h1,h2,q⟩:=B
  obtain ⟨v,rfl,er⟩:=qO z h1
  obtain ⟨a1,vs,rfl,g,r⟩:=iD n er h2
  rw [r.bls] at g
  exact ⟨a1,bs,rfl,.of g,aZ n I sh (.bl _) q⟩
end
section
variable {X:Cx} {C:Pc} {K:PySem.W.Frag} {pos:Pos}
def aaU (K:PySem.W.Frag) (n:Nat) (t:Qw):TG:=λv σ H Q=>∃a xs,v=.ref a/\iV K H a xs/\xs.length=n/\t xs σ H Q
theorem Sd {k:Nat} (hK:X.K=K) (hc:X.calm=true) (h:vR X es t)
  (hn:(assignEach es X.env).length=n:=by rfl) (J:(assignEach es X.env).findIdx? (·.1)=none:=by rfl):PG X (.Tuple es k pos) (aaU K n t):=by
 subst hK
 intro pins s σ H v u Q I r B
 obtain ⟨a,xs,e1,Z,hl,B⟩:=B
 subst e1
 cases r
 obtain ⟨z,O,Y,hz⟩:=I.list Z
 have D:(assignEach es X.env).length=z.toArray.size:=by simp [hn,<-hl,O.length]
 rw [assign_Tuple]
 refine zd (xq ?_)
 unfold unpack
 rw [D,J]
 refine zd (zU (PySem.W.kun_itemsOf (I.ok.hd hc) Y.isList λh' U=>?_))
 have I1:Inv X pins σ H { s with heap:=h' }:=I.kept (t':=s.toks) λb o e=>U b o (zH (zA e)) e
 exact h pins _ σ H xs _ Q I1 (by simpa using O) B
def Ez (n:Nat) (z:uO):sX:=λx p Q=>∃xs,x=.lst xs/\xs.length=n/\z xs p Q
theorem EY {k:Nat} {D:uO} (hK:X.K=C.K) (Z:X.calm=true) (h:vR X es (Ja C D)) (U:(assignEach es X.env).length=n:=by rfl) (z:(assignEach es X.env).findIdx? (·.1)=none:=by rfl):PG X (.Tuple es k pos) (I_ C (Ez n D)):=
 QG.mk (Sd hK Z h U z) λp σ F H x v R B J I=>by
  obtain ⟨xs,O,Y,q⟩:=I
  subst O
  cases J with
  | lst q1 r1=>exact ⟨_,_,rfl,.of (B.sub _ _ q1),by rw [<-r1.length];exact Y,p,F,xs,R,B,r1,q,λ_ _ h=>h⟩
end
section
variable {X:Cx} {C:Pc} {c e e1 e2:Expr} {pos ps apos:Pos} {W:Hp} {p:aO} {σ:St} {F H:Hp} {st:Stmt} {t u:nj}
def vIf (n:Hp->m8) (t u:nj):nj:=λE W p=>n W p λb p1=>if b=true then t E W p1 else u E W p1
theorem aed (J:∀W,cW C W->PT X c (gf (C.add W) (tc W))) (U:gw X a (kJ C t)) (O:gw X b (kJ C u)):PS X (.If c a b pos) (kJ C (vIf tc t u)):=
 VS.mk (JV (aaJ J) U O) λW p σ F H E D ok I=>⟨W,ok,qM D I λk p1 B H1 n z sh q=>dZ (λq=>⟨W,p1,B,E,n,ok,q,wV z⟩) (λq=>⟨W,p1,B,E,n,ok,q,wV z⟩) q⟩
end
section
variable {X:Cx} {C:Pc} {e o value:Expr} {es:List Expr} {pos pos' apos:Pos} {W:Hp} {f:Str} {K:PySem.W.Frag}
def Yd (K:PySem.W.Frag) (f:Str) (B z:Hp->TQ):nj:=λE W p=>z W p λev p1=>B W p1 λD p2=>∃x n dx fs v,R8 (lk p2 ev)=some v/\lk p2 D=.atom (.ref x)/\W x=some (.ins n dx fs)/\vW K n/\iC K n f/\fs.length<1000/\E.nx (upd W x (.ins n dx (iW f v fs))) p2
theorem U0 (hK:X.K=K) (ho:∀W,cW C W->PE X o (Up (C.add W) (to W))) (hv:∀W,cW C W->PE X value (Up (C.add W) (tv W))) (hs:swapsWith value (some (.Attribute o f pos')) pos.line X.env=pure false:=by rfl) :
  PS X (.Assign [.Attribute o f pos'] value pos) (kJ C (Yd K f to tv)):=by
 subst hK
 exact VS.mk (V3 (wX ho) (wX hv) hs) λW p σ F H E rs ok J=>⟨W,ok,up1 rs J λe1 p1 v1 F1 H1 D s1 Ql U J=>⟨W,ok,up1 D J λe2 p2 v2 F2 H2 n Y z O hq=>by
  obtain ⟨x,Kl,dx,fs,v,g1,g2,Z,g4,g5,g6,q⟩:=hq
  rw [dI O g2,R_ (U.mono Y z) g1]
  obtain ⟨B,I⟩:=n.Uz (us:=.ins Kl dx (iW f v fs)) ok Z (.inr (.inr (.inl ⟨_,_,_,rfl⟩)))
  exact ⟨x,Kl,dx,fs,rfl,n.wH ok Z,g4,g5,g6,_,p2,F2,B,I,s1.trans Y,q⟩⟩⟩
def Ny (S:Ex) (I:Addr) (m:Str) (n:Hp->TQ) (z:Hp->TAQ):Qm:=λW p Q=>n W p λB p1=>∃x dx fs,lk p1 B=.atom (.ref x)/\W x=some (.ins I dx fs)/\fs.lookup m=none/\z W p1 λes p2=>∃ds,Qj es=some ds/\S W (.atom (.ref x)::ds) λr D=>Q r D p2
theorem Ye {m : Str} {k : Nat} {ds0 : List (Str × Value)} (hK : X.K = C.K) (ho : ∀ W, cW C W → PE X o (Up (C.add W) (to W))) (c : vW X.K Kl) (hm : Meth X.K Kl m fa)
    (G : bV X.prog X.w X.K X.mg X.base m7 k fa fd ps (JL X.K S)) (hr : bO k X.A) (hb : Binds X.K fd ps []) (ha : ∀ W, cW C W → PA X (e :: es) (gJ (C.add W) (cI W)))
    (Z : starEach (e :: es) X.env = (false, eval e X.env) :: starEach es X.env := by rfl) (hpl : (backTo pos (starEach es X.env)).any (·.1) = false := by rfl)
    (ht : eval (.Call (.Attribute o m apos) (e :: es) [] pos) X.env = (do
      let ov ← eval o X.env
      standAt apos.atName
      let (f, first) ← holding [ov] (getMethod ov m pl)
      callWith pos f first (backTo pos (starEach (e :: es) X.env)) (backToKw pos (keywordEach [] X.env))) := by rfl) :
    PE X (.Call (.Attribute o m apos) (e :: es) [] pos) (Jg C (Ny S Kl m to cI)) := λpins s σ H Q I hq => by
  obtain ⟨W, p, F, R, rs, ok, Y, hq⟩ := hq
  refine Gh (wX ho) c hm G hr hb .nil Bk (aaK ha) Z hpl ht pins s σ H Q I ?_
  refine ⟨W, ok, up1 rs Y λe1 p1 v1 F1 H1 B s1 Ql G4 O => ?_⟩
  obtain ⟨x, dx, fs, h1, h2, h3, U⟩ := O
  have ev := dI G4 h1
  subst ev
  refine ⟨x, dx, fs, rfl, B.wH ok h2, h3, W, ok, dR B U λes2 p2 vs2 F2 H2 n s2 Qk BJ O => ?_⟩
  obtain ⟨ds, g1, q⟩ := O
  rw [zX, hK]
  refine ⟨W, .atom (.ref x) :: ds, F2, _, n.sub, λb u z => ⟨n.wH ok z, n.wF ok z, ok.lst b u z⟩, .cons (.atom _) (sW (C := C.add W) BJ g1), q, λr v W' F' H' po hR => ?_⟩
  obtain ⟨D, J⟩ := RS.M9 n ok po
  exact hq r v W' p2 F' H' D J (s1.trans (s2.trans po.ext)) po.res hR
def NB (S:Ex) (z:Addr):Qm:=λW p Q=>∀x dx,W x=none->W dx=none->dx≠x->S (upd (upd W dx (.own x)) x (.ins z dx [])) [.atom (.ref x)] λd n=>d=.non/\Q (.atom (.ref x)) n p
theorem Yg {k:Nat} (hK:X.K=C.K) (M:Mk X.K Kl fa) (G:bV X.prog X.w X.K X.mg X.base m7 k fa fd ps (JL X.K S)) (hr:bO (k+1) X.A) (hg:Gl X x) (hm:X.mg x=some (.ref Kl)) (hb:Binds X.K fd ps [])
  (hdb:(x == ("__debug__":Str))=false:=by decide):PE X (.Call (.Name x p0) [] [] pos) (Jg C (NB S Kl)):=λpins s σ H Q I hq=>by
 obtain ⟨W,p,F,R,rs,ok,ht',hq⟩:=hq
 refine Ke M G hr hg hm hb .nil Bk hdb pins s σ H Q I ?_
 show ∀x dx,_
 intro a da na J ne
 obtain ⟨f1,f2,f3⟩:=rs.free J
 obtain ⟨D,Z⟩:=(rs.laid (o:=.own a) J).M5 ok f1 f2 aL (.inr (.inr (.inr ⟨_,rfl⟩))) f3
 have O:upd H da (.own a) a=none:=by rw [aJ (Ne.symm ne)];exact na
 obtain ⟨g1,g2,g3⟩:=D.free O
 obtain ⟨n,B⟩:=(D.laid (o:=.ins Kl da []) O).M5 Z g1 g2 aL (.inr (.inr (.inl ⟨_,_,_,rfl⟩))) g3
 have wa:W a=none:=by
  have:=(iI g2).1
  rw [aJ (Ne.symm ne)] at this;exact this
 rw [hK]
 refine ⟨_,[.atom (.ref a)],F,_,n.sub,λb u z=>⟨n.wH B z,n.wF B z,B.lst b u z⟩,.cons (.atom _) .nil,ht' a da wa (iI f2).1 ne,λr v W' F' H' po hR=>?_⟩
 obtain ⟨U,Y⟩:=RS.M9 n B po
 obtain ⟨hr',hR⟩:=hR
 subst hr'
 have hv:v=.non:=by have:=po.res;cases this;rfl
 exact ⟨hv,hq (.atom (.ref a)) (.ref a) W' p F' H' U Y po.ext (.atom _) hR⟩
end
section
variable {X:Cx} {C:Pc} {e o:Expr} {es:List Expr} {pos apos:Pos} {f:Str} {K:PySem.W.Frag}
def NK (K:PySem.W.Frag) (H0:Hp) (f:Str) (z:TQ):TQ:=λp Q=>z p λe1 p1=>∃x n dx fs v,lk p1 e1=.atom (.ref x)/\H0 x=some (.ins n dx fs)/\vW K n/\iC K n f/\fs.lookup f=some v/\Q (.fz (vd v)) p1
theorem E_ {D:TQ} (h0:C.bs=[]) (Y:X.K=K) (he:PE X e (Up C D)) (U:attributeBase e f X.env (eval e X.env)=eval e X.env:=by rfl):PE X (.Attribute e f pos) (Up C (NK K C.H0 f D)):=by
 subst Y
 exact QE.mk (V2 he U) λp σ F H R J O=>up1 J O λe1 p1 v1 F1 H1 n I sh B z=>by
  obtain ⟨x,Kl,dx,fs,v,h1,h2,h3,h4,Z,q⟩:=z
  exact ⟨x,Kl,dx,fs,v,dI B h1,n.keep _ _ h2 (λq z=>by rw [h0] at z;cases z),h3,h4,Z,aZ n I sh (UJ v F1) q⟩
theorem NP {m : Str} {k : Nat} (he : PE X o ta) (c : vW X.K Kl) (O : Meth X.K Kl m fa) (F : bV X.prog X.w X.K X.mg X.base (oY X.prog X.w) k fa fd ps sp) (hr : bO k X.A) (hb : Binds X.K fd ps []) (lk : pD X G) (ha : PA X (e :: es) t)
    (J : starEach (e :: es) X.env = (false, eval e X.env) :: starEach es X.env := by rfl) (hpl : (backTo pos (starEach es X.env)).any (·.1) = false := by rfl)
    (ht : eval (.Call (.Attribute o m apos) (e :: es) [] pos) X.env = (do
      let ov ← eval o X.env
      standAt apos.atName
      let (f, first) ← holding [ov] (getMethod ov m pl)
      callWith pos f first (backTo pos (starEach (e :: es) X.env)) (backToKw pos (keywordEach [] X.env))) := by rfl) :
    PE X (.Call (.Attribute o m apos) (e :: es) [] pos) (λσ H Q => ta σ H λx H1 => ∃ a dx fs, x = .ref a ∧ H1 a = some (.ins Kl dx fs) ∧ fs.lookup m = none ∧ t σ H1 λvs H2 => sp (x :: vs) H2 Q λcl _ H' => ∃ D, cl = .ref D ∧ G D σ H') := by
  intro pins s σ H Q I h
  refine PySem.W.methodCall_KW (pl := pl) (bu (he pins s σ H _ I h) λu s1 n => ?_) ht
  obtain ⟨x, H1, U, rx, a, dx, fs, ex, ea, l, q⟩ := n
  subst ex
  obtain rfl : u = Value.ref a := rx
  refine lW U ea c O l ?_
  refine xd (first := [.ref a]) (h₀ := X.base) I.ok.mod.Qs O.kp (bu (ha pos pins s1 σ H1 _ U q) λus Z n => ?_) J hpl
  obtain ⟨vs, H2, B, r, q2⟩ := n
  refine ⟨B.rQ, ?_⟩
  refine wg (us := .ref a :: us) (vs := .ref a :: vs) F hr hb B (.cons rfl r) q2 λe s' n => ?_
  obtain ⟨a', D, H', e1, e2, e3, un, hok, Y, C'', e4, g⟩ := n
  subst e1
  cases e4
  exact lk pins σ H2 Z H' s' a' D B (B.call' e2 un hok e3 (λb z => absurd z (by simp))) Y g
end
section
variable {X:Cx} {scope:Scope} {N:List Str} {k:Nat} {pins:List (Addr × Obj)} {σ:St} {H:Hp} {s:Shared} {fp:List Addr} {C:Pc} {XE:Addr->aO->Prop}
theorem NQ {D:Addr} (S:aU X scope N k) (I:Inv X pins σ H s) (hf:∀b∈fp,lz X pins H b) (hC:s.heap.objs.size<Z) (ln:Xx X C XE)
  (hs:X.stack=X.env::X.outer) (hL:X.env.frame=some X.env.locals) (hx:X.ex=[]):pD (dH X scope N Z s H fp (Wf X scope use Qc Z D)) (GX (C.sh k) λCl p=>XE Cl (p.drop k)):=by
 intro Gd σ4 H4 s4 H5 s5 a Cl J4 J5 tr ⟨p,F,rs,xe⟩
 obtain ⟨t0,t1,oe,vs,T,oT,ts,a1,a2,a3,a4,a5,a6,a7,a8,a9,a10⟩:=tr
 have B4:Un (frs X.stack) fp H H4 s.heap s4.heap:=J4.base
 have B:Un (frs X.stack) fp H H5 s.heap s5.heap:=J5.base
 have Y:∀b,s4.heap.get? b=none->X.s₀.heap.get? b=none/\∀o,s.heap.get? b=some o->b∈fp:=λb z=>by
  have h2:∀o,s.heap.get? b=some o->b∈fp:=λo q=>by
   by_cases U:b∈fp
   ·exact U
   ·obtain ⟨_,e⟩:=B4.there b o q U;rw [z] at e;cases e
  refine ⟨?_,h2⟩
  cases y:X.s₀.heap.get? b with
  | none=>rfl
  | some o=>
   obtain ⟨o2,e2⟩:=I.base.there b o y (by rw [hx];intro z;cases z)
   obtain ⟨_,_,_,O,_⟩:=hf b (h2 o2 e2)
   rcases O with O|O
   ·rw [hx] at O;cases O
   ·rw [y] at O;cases O
 have aee:∃o,s4.heap.get? Z=some o:=by obtain ⟨m,⟨o,_,_,ho,_⟩,_⟩:=J4.loc;exact ⟨o,ho⟩
 have neZ:∀b,s4.heap.get? b=none->Z≠b:=λb z y=>by obtain ⟨o,e⟩:=aee;rw [y,z] at e;cases e
 have nfZ:Z ∉ frs X.stack:=λz=>by
  obtain ⟨_,o',q',nf⟩:=I.stack.mem z
  exact absurd (zA q') (Nat.not_lt.mpr (xp hC))
 show wpAny _ _ (noteFrame (.ref a) X.env) _ _ s5
 refine u6 (base:=X.base) (outer:=X.outer) (by rw [<-hs];exact J5.ok.frames) (by rw [<-hs];exact J5.stack) hL a1 a3 a4 a5 a8 a9 a10 λh6 n zq=>?_
 obtain ⟨oe',vs',J,oT',ts',fl,b1,b2,b3,b4,b5,b6,b7,b8,b9⟩:=zq
 rw [<-hs] at n
 have T4:X.s₀.heap.get? J=none/\H5 J=none/\(∀b o,s5.heap.get? b=some o->b≠T->b≠J)/\J≠Z:=by
  rcases b6 with z|z
  ·refine ⟨?_,?_,λb o e _ y=>(by rw [y,z] at e;cases e),λy=>?_⟩
   ·cases y:X.s₀.heap.get? J with
    | none=>rfl
    | some o=>
     obtain ⟨o2,e2⟩:=I.base.there J o y (by rw [hx];intro z;cases z)
     by_cases U:J∈fp
     ·obtain ⟨_,_,_,O,_⟩:=hf J U
      rcases O with O|O
      ·rw [hx] at O;cases O
      ·rw [y] at O;cases O
     ·obtain ⟨_,e⟩:=B.there J o2 e2 U;rw [z] at e;cases e
   ·cases y:H5 J with
    | none=>rfl
    | some o=>obtain ⟨_,e⟩:=(J5.hok _ _ y).ex;rw [z] at e;cases e
   ·obtain ⟨m,⟨o,_,_,ho,_⟩,_⟩:=J5.loc
    have ho:s5.heap.get? Z=some o:=ho
    rw [<-y,z] at ho;cases ho
  ·rw [z]
   exact ⟨(Y T a6).1,a7,λb o _ h=>h,λy=>neZ T a6 y.symm⟩
 obtain ⟨T1,T2,T3,T5⟩:=T4
 have e6:∀b o,s5.heap.get? b=some o->b≠a->b≠T->b ∉ frs X.stack->h6.get? b=some o:=λb o e n1 n2 n3=>n.keep b o e (λz=>by
  rcases zm.mp z with z|z
  ·exact n1 z
  ·exact n2 (zr.mp z)) n3
 obtain ⟨m,hn,_⟩:=J5.loc
 have hn':s5.heap.Ns Z m:=hn
 refine ⟨m,?_,λh7 sb=>?_⟩
 ·obtain ⟨o,es,ep,ho,r⟩:=hn'
  exact ⟨o,es,ep,e6 _ _ ho (neZ a t1) (neZ T a6) nfZ,r⟩
 have e7:∀b o,h6.get? b=some o->b≠Z->h7.get? b=some o:=λb o e z=>(sb.2 b z).trans e
 have c1:=e7 a _ b1 (Ne.symm (neZ a t1))
 have c7:=e7 J _ b7 T5
 have hz:=(yr.mp b9).1
 unfold PySem.passOn
 refine zd (xu c1 b3 b4 ?_)
 rw [zh (show ¬((Value.ref J == Value.none)=true) from by simp)]
 have step:wpAny (model X.prog X.w) X.A (setFlight (.ref a) (some X.env.locals)) (λ_ s2=>X.xe (.ref a) s2) X.xe { s5 with heap:=h7 }:=by
  unfold setFlight
  refine zd (xu c1 b3 b4 ?_)
  rw [zo (show (Value.ref J != Value.none)=true from by simp)]
  refine wpAny_setField c7 b8 hz ?_
  show X.xe (.ref a) { s5 with heap:=h7.update J (Obj.mapFields (·.setIfInBounds 3 (rawInt X.env.locals))) }
  obtain ⟨o',ts2,d1,d2,d3⟩:=tR (x:=rawInt X.env.locals) c7 b8 b9
  have e8:∀b o,h7.get? b=some o->b≠J->(h7.update J (Obj.mapFields (·.setIfInBounds 3 (rawInt X.env.locals)))).get? b=some o:=λb o e z=>(yN _ _ (Ne.symm z)).trans e
  have all:∀b o,s5.heap.get? b=some o->b≠a->b≠T->b ∉ frs X.stack->b≠Z->(h7.update J (Obj.mapFields (·.setIfInBounds 3 (rawInt X.env.locals)))).get? b=some o:=λb o e n1 n2 n3 n4=>e8 b o (e7 b o (e6 b o e n1 n2 n3) n4) (T3 b o e n2)
  have old:∀b o,s.heap.get? b=some o->b ∉ fp->b≠a/\b≠T/\b≠Z:=λb o e nb=>⟨λz=>nb ((Y b (z▸t1)).2 o e),λz=>nb ((Y b (z▸a6)).2 o e),zH (xb (zA e) hC)⟩
  have slt:∀b o,s5.heap.get? b=some o->b∈frs X.stack->b≠T->b≠Z->∃sl,(h7.update J (Obj.mapFields (·.setIfInBounds 3 (rawInt X.env.locals)))).get? b=some { o with slots:=sl }:=λb o e U n2 n4=>by
   obtain ⟨sl,q⟩:=n.slot b o e U
   exact ⟨sl,e8 b _ (e7 b _ q n4) (T3 b o e n2)⟩
  have I8:Inv X pins σ H5 { s5 with heap:=h7.update J (Obj.mapFields (·.setIfInBounds 3 (rawInt X.env.locals))) }:=by
   refine I.call' (ch:=fp) (show s5.os=s.os from J5.os) ?_ ?_ J5.bare λb U=>?_
   ·refine ⟨λb o q q0 n1 n2=>?_,λb o q q0 U n2=>?_,B.free,λb o q n2=>?_,B.o6⟩
    ·obtain ⟨x1,x2,x3⟩:=old b o q n2
     exact all b o (B.keep b o q q0 n1 n2) x1 x2 n1 x3
    ·obtain ⟨x1,x2,x3⟩:=old b o q n2
     obtain ⟨sl,e⟩:=B.slot b o q q0 U n2
     obtain ⟨sl',e'⟩:=slt b _ e U x2 x3
     exact ⟨sl',e'⟩
    ·obtain ⟨x1,x2,x3⟩:=old b o q n2
     obtain ⟨o1,e⟩:=B.there b o q n2
     by_cases U:b∈frs X.stack
     ·obtain ⟨sl',e'⟩:=slt b _ e U x2 x3;exact ⟨_,e'⟩
     ·exact ⟨_,all b o1 e x1 x2 U x3⟩
   ·intro b o q
    refine (J5.hok b o q).stay (λc u hc e1=>?_) λ_ z=>z
    have ht:H5 c≠none:=by
     rcases hc with rfl|hc
     ·rw [q];intro z;cases z
     ·rw [hc];intro z;cases z
    exact all c u e1 (λz=>ht (z▸t0)) (λz=>ht (z▸a7)) (λz=>ht (J5.qW c z)) (λz=>ht (z▸(show H5 Z=none from J5.free)))
   ·exact (hf b U).2
  have ea:=e8 a _ c1 (Ne.symm b5)
  refine ln pins σ _ H5 F _ a Cl X.env.locals _ hL I8 ⟨t0,(Y a t1).1,oe',vs',J,o',ts2,ea,by rw [b2,a2],b3,b4,b5,T1,T2,d1,d2,d3⟩ (rs.rE ?_) xe
  have l1:=rs.len
  have l2:σ4.length=N.length:=J5.len
  have l3:=S.len
  omega
 have fr:(compEnvC scope (di X.env.cells scope.names []) Z X.env).frame=some X.env.locals:=hL
 rw [fr]
 first
  | exact zd (zB (zd (bu step λ_ _ z=>wpAny_throw z)))
  | exact zd (bu step λ_ _ z=>wpAny_throw z)
theorem Sg {n:Expr} (S:aU X scope N k) (hc:X.calm=true) (ln:Xx X C XE) (hi:PI X tg iter (vh C ti))
  (hg:∀Z s H fp E,PG (dH X scope N Z s H fp E) tg (nQ (C.sh k) k g)) (z:∀Z s H fp E,v9 (dH X scope N Z s H fp E) ifs (gf (C.sh k) tt))
  (he:∀Z s H fp E,pD (dH X scope N Z s H fp E) (GX (C.sh k) λCl p=>XE Cl (p.drop k))->PE (dH X scope N Z s H fp E) n (Up (C.sh k) te))
  (hs:X.stack=X.env::X.outer:=by rfl) (hL:X.env.frame=some X.env.locals:=by rfl) (hx:X.ex=[]:=by rfl)
  (hf:∀x,foldedSetIterable iter X.env x=pure x:=by intro _;rfl):PE X (.ListComp n [⟨tg,iter,ifs,0⟩] scope pos) (m9 C (lN k ti g tt te)):=by
 refine QN.mk (t:=Bl k (vh C ti) (nQ (C.sh k) k g) (gf (C.sh k) tt) (Up (C.sh k) te)) (λpins s σ H Q I h=>?_) λp σ F H R rs z=>tG rs z λ_ _ h=>h
 rw [eval_ListComp]
 refine pB Ks S hc hi hg z (λZ s H fp O J D=>v_ (he Z s H fp _ (NQ S O J D ln hs hL hx))) hf I h λs2 H2 fp C Y H5 s5 oD ob O J D U hd q=>?_
 obtain ⟨mC,B,_⟩:=U.loc
 exact ⟨mC,B,λh' sb=>⟨.ref s2.heap.objs.size,_,sG O J D rfl U hd sb,rfl,q⟩⟩
end
section
variable {prog:Program} {w:World} {A:Around} {E:Value->Shared->Prop} {s:Shared}
theorem NT (B:s.heap.IsTupleIter j t i) (J:s.heap.IsTuple t vs) (I:vs[i]? = some x)
  (q:∀h',h'.IsTupleIter j t (i+1)->Heap.SameBut j s.heap h'->Q x { s with heap:=h' }):wpAny (model prog w) A (Builtin.SmallTypes.nextOf (.ref j)) Q E s:=by
 obtain ⟨o,n,O,hd⟩:=id B
 obtain ⟨U,z,_,Y,D⟩:=J
 unfold Builtin.SmallTypes.nextOf
 refine zd (wpAny_callSpecial?_slot (name:=Str.ofString "__next__") B.typeIs F.slot_tuple_iterator_next (wpAny_call_entry F.slot_tuple_iterator_next B.typeIs F.entry_tuple_iterator_next ?_ (F.args_tuple_iterator_next_1 _)))
 show wpAny _ _ (field (.ref j) 0 >>= _) _ _ s
 refine zd (xu n hd (x:=.ref t) rfl ?_)
 show wpAny _ _ (if (Value.ref t == Value.none)=true then _ else _) _ _ s
 rw [zh (show ¬((Value.ref t == Value.none)=true) by simp)]
 show wpAny _ _ (field (.ref j) 1 >>= _) _ _ s
 refine zd (xu n hd (x:=.int i 0) rfl ?_)
 show wpAny _ _ (seqItems? (.ref t) >>= _) _ _ s
 refine zd (wpAny_seqItems z D ?_)
 simp only [xj,I]
 exact zd (wpAny_setField n hd (by simp) (zB ⟨x,rfl,zB (q _ ⟨_,Heap.get?_update_self _ n (Obj.isFreed_of_fields (xc hd _)),(Obj.cls_mapFields ..).trans O,by rw [xc hd];simp [rawInt]⟩ (Heap.SameBut.update ..))⟩))
theorem G7 (n:Nat) {i j:Nat} (h:(i == j)=false):n+i≠n+j:=λz=>by rw [Nat.add_left_cancel z] at h;simp at h
structure ZT (n l1 l2:Addr) (i:Nat) (h:Heap):Prop where
 z:IsZip h (n+4) (n+2) (n+3) .none
 ti:IsPair h (n+2) (.ref n) (.ref (n+1))
 tO:∃a b,IsPair h (n+3) a b
 l:h.IsListIter n l1 i
 t:h.IsTupleIter (n+1) l2 i
abbrev Yh (n:Addr):List Addr:=[n+4,n+2,n+3,n,n+1]
theorem Fb {n b:Nat} (h:b∈Yh n):n<=b/\b<=n+4:=by
 simp only [zm,yQ,or_false] at h
 omega
theorem vC {n Y l2:Addr} {k:Nat} {xs:Array Value} {Q:Option Value->Shared->Prop} (hh:A.handled=none) (h1:Y<n) (h2:l2<n) (st:ZT n Y l2 k s.heap) (hl1:s.heap.IsList Y xs)
  (hi:∀x,xs[k]? = some x->∃ys y,s.heap.IsTuple l2 ys/\ys[k]? = some y/\∀h',IsZip h' (n+4) (n+2) (n+3) (rawInt s.heap.objs.size)->IsPair h' (n+2) (.ref n) (.ref (n+1))->IsPair h' (n+3) x y->h'.IsListIter n Y (k+1)->h'.IsTupleIter (n+1) l2 (k+1)->IsPair h' s.heap.objs.size x y->
   (∀c o,c ∉ Yh n->s.heap.get? c=some o->h'.get? c=some o)->Q (some (.ref s.heap.objs.size)) { s with heap:=h' })
  (he:xs[k]? = none->∀h',(∀c o,c ∉ Yh n->s.heap.get? c=some o->h'.get? c=some o)->Q none { s with heap:=h' }):wpAny (model prog w) A (pyNext (.ref (n+4))) Q E s:=by
 obtain ⟨Z,hTI,⟨a,b,hTO⟩,hI,hJ⟩:=st
 have n1:n≠n+4:=G7 n (i:=0) rfl
 have n2:n≠n+3:=G7 n (i:=0) rfl
 have n3:n+1≠n+4:=G7 n rfl
 have n4:n+1≠n+3:=G7 n rfl
 have n5:n+3≠n+4:=G7 n rfl
 have n6:n≠n+1:=G7 n (i:=0) rfl
 have n7:n+2≠n+4:=G7 n rfl
 have n8:∀{l j:Nat},l<n->l≠n+j:=λh=>zH (zE h (Nat.le_add_right _ _))
 have hT:s.TypeIs (.ref (n+4)) "zip":=⟨_,Z,rfl⟩
 have out:∀c,c ∉ Yh n->c≠n+4/\c≠n+3/\c≠n/\c≠n+1:=λc D=>⟨λz=>D (z▸.head _),λz=>D (z▸.tail _ (.tail _ (.head _))),λz=>D (z▸.tail _ (.tail _ (.tail _ (.head _)))),λz=>D (z▸.tail _ (.tail _ (.tail _ (.tail _ (.head _)))))⟩
 unfold pyNext
 refine zd (wpAny_attempt (wpAny_callSpecial?_slot (name:=Str.ofString "__next__") hT F.slot_zip_next (wpAny_call_entry F.slot_zip_next hT F.entry_zip_next ?_ (F.args_zip_next_1 _))))
 show wpAny _ _ (field (.ref (n+4)) 2 >>= _) _ _ _
 refine zd (xu Z rfl (x:=.bool false) rfl ?_)
 show wpAny _ _ (field (.ref (n+4)) 3 >>= _) _ _ _
 refine zd (xu Z rfl (x:=.ref (n+2)) rfl (zd (wpAny_seqItems hTI rfl ?_)))
 show wpAny _ _ (Builtin.SmallTypes.ownedTupleIsFree (.ref (n+4)) >>= _) _ _ _
 refine zd ?_
 unfold Builtin.SmallTypes.ownedTupleIsFree
 refine zd (xu Z rfl (x:=.none) rfl (zB ?_))
 simp only [if_true]
 refine zd (wpAny_rule (zd (xu Z rfl (x:=.ref (n+3)) rfl (zd (wpAny_setField_rec Z (by simp) λha za sa=>?_)))))
 replace za:IsZip ha (n+4) (n+2) (n+3) .ellipsis:=za
 refine zd ?_
 simp only [List.zipIdx_cons,List.zipIdx_nil,List.forIn_cons,List.forIn_nil]
 refine zd (zd (wpAny_onRaise ?_))
 show wpAny _ _ (Builtin.SmallTypes.nextOf (.ref n) >>= _) _ _ _
 have l1z:Y≠n+4:=n8 h1
 cases hx:xs[k]? with
 | none=>
  refine zd (wpAny_nextOf_list_end hh (hI.extBut sa.extBut n1) (hl1.extBut sa.extBut l1z) hx λhb e J zq=>?_)
  obtain ⟨oe,O,hce⟩:=zq
  have zb:IsZip hb (n+4) (n+2) (n+3) .ellipsis:=J _ _ (Ne.symm n1) za
  have ez:e≠n+4:=λy=>by subst y;rw [zb] at O;cases O;simp at hce
  refine wpAny_setField_rec zb (by simp) λD _ I=>?_
  refine zd (wpAny_isInstance (T:="StopIteration") (b:=true) ⟨oe,I.extBut _ _ ez O,hce⟩ isSubtype_stop ?_)
  exact zB (he hx _ λc o D x=>I.extBut _ _ (out c D).1 (J _ _ (out c D).2.2.1 (sa.extBut _ _ (out c D).1 x)))
 | some x=>
  obtain ⟨ys,y,hl2,hy,hQ⟩:=hi x hx
  refine zd (wpAny_nextOf_list_item (hI.extBut sa.extBut n1) (hl1.extBut sa.extBut l1z) hx λhb ib J=>zB ?_)
  have tb:IsPair hb (n+3) a b:=J.extBut _ _ (Ne.symm n2) (sa.extBut _ _ n5 hTO)
  refine zd (wpAny_seqItems tb rfl (zd (wpAny_updateSeq_pair tb λD tc I=>?_)))
  replace tc:IsPair D (n+3) x b:=tc
  refine zd (wpAny_letGo (zB (zd (zd (wpAny_onRaise ?_)))))
  show wpAny _ _ (Builtin.SmallTypes.nextOf (.ref (n+1)) >>= _) _ _ _
  refine zd (NT (((hJ.extBut sa.extBut n3).extBut J.extBut (Ne.symm n6)).extBut I.extBut n4) (((hl2.extBut sa.extBut (n8 h2)).extBut J.extBut (zH h2)).extBut I.extBut (n8 h2)) hy λhd jd sd=>zB ?_)
  have td:IsPair hd (n+3) x b:=sd.extBut _ _ (Ne.symm n4) tc
  refine zd (wpAny_seqItems td rfl (zd (wpAny_updateSeq_pair td λB te se=>?_)))
  replace te:IsPair B (n+3) x y:=te
  refine zd (wpAny_letGo (zB (zB (zd (wpAny_seqItems te rfl (zd (wpAny_newTuple ?_)))))))
  have hsz:B.objs.size=s.heap.objs.size:=by rw [se.1,sd.1,I.1,J.1,sa.1]
  have ze:IsZip B (n+4) (n+2) (n+3) .ellipsis:=se.extBut _ _ (Ne.symm n5) (sd.extBut _ _ (Ne.symm n3) (I.extBut _ _ (Ne.symm n5) (J.extBut _ _ (Ne.symm n1) za)))
  have kp:∀c o,c≠n+4->c≠n+3->c≠n->c≠n+1->s.heap.get? c=some o->B.get? c=some o:=λc o U c2 c3 c4 e=>se.extBut _ _ c2 (sd.extBut _ _ c4 (I.extBut _ _ c2 (J.extBut _ _ c3 (sa.extBut _ _ U e))))
  have ie:B.IsListIter n Y (k+1):=((ib.extBut I.extBut n2).extBut sd.extBut n6).extBut se.extBut n2
  have je:B.IsTupleIter (n+1) l2 (k+1):=jd.extBut se.extBut n4
  have zlt:n+4<B.objs.size:=zA ze
  show wpAny _ _ (Builtin.SmallTypes.ownedTupleHandOut (.ref (n+4)) (.ref B.objs.size) >>= _) _ _ _
  refine zd ?_
  unfold Builtin.SmallTypes.ownedTupleHandOut
  have zf:IsZip (B.push { cls:=.type "tuple",data:=.seq #[x,y] }) (n+4) (n+2) (n+3) .ellipsis:=zu _ ze
  refine zd (wpAny_setField_rec zf (by simp) λh6 z6 s6=>?_)
  replace z6:IsZip h6 (n+4) (n+2) (n+3) (rawInt B.objs.size):=z6
  refine wpAny_setField_rec z6 (by simp) λh7 z7 s7=>?_
  replace z7:IsZip h7 (n+4) (n+2) (n+3) (rawInt B.objs.size):=z7
  have up:∀c o,c≠n+4->B.get? c=some o->h7.get? c=some o:=λc o U e=>s7.extBut _ _ U (s6.extBut _ _ U (zu _ e))
  have t7:IsPair h7 B.objs.size x y:=s7.extBut _ _ (Nat.ne_of_gt zlt) (s6.extBut _ _ (Nat.ne_of_gt zlt) (zz _ rfl))
  refine zB ⟨_,rfl,zB ?_⟩
  show Q (some (.ref B.objs.size)) _
  rw [hsz] at z7 t7 ⊢
  obtain ⟨oi,ei,ri⟩:=ie
  obtain ⟨oj,ej,rj⟩:=je
  exact hQ h7 z7 (up _ _ n7 (kp _ _ n7 (G7 n rfl) (Ne.symm (G7 n (i:=0) rfl)) (G7 n rfl) hTI)) (up _ _ n5 te) ⟨oi,up _ _ n1 ei,ri⟩ ⟨oj,up _ _ n3 ej,rj⟩ t7 λc o D e=>by
   obtain ⟨U,c2,c3,c4⟩:=out c D
   exact up c o U (kp c o U c2 c3 c4 e)
end
def Yi (K:PySem.W.Frag) (n z:Addr):It:=
 ⟨λi H=>∃xs ys x y,iV K H n xs/\Dm K H z ys/\xs[i]? = some x/\ys[i]? = some y,
  λi H x H'=>∃t u v,x=.ref t/\H t=none/\(∀xs,iV K H n xs->xs[i]? = some u)/\(∀ys,Dm K H z ys->ys[i]? = some v)/\H'=upd H t (.tup [u,v]),
  λi H=>∃xs,iV K H n xs/\xs.length<=i⟩
theorem Jm {P:Program} {w:World} {K:PySem.W.Frag} {es:List Expr} {k:Nat} {pos:Pos} {n l1 l2:Addr} (h1:l1<n) (h2:l2<n):Turn P w K (.Tuple es k pos) (Yi K l1 l2) (Yh n) (n+4) (ZT n l1 l2) where
 mem:=.head _
 obj:=λi h st b J=>by
  obtain ⟨h1,h2,⟨a,b',h3⟩,⟨o4,h4,c4,d4⟩,⟨o5,h5,c5,d5⟩⟩:=st
  simp only [zm,yQ,or_false] at J
  rcases J with rfl|rfl|rfl|rfl|rfl
  ·exact ⟨_,h1,λv z=>by cases z⟩
  ·exact ⟨_,h2,λv z=>by cases z⟩
  ·exact ⟨_,h3,λv z=>by cases z⟩
  ·exact ⟨o4,h4,λv z=>by rw [d4] at z;cases z⟩
  ·exact ⟨o5,h5,λv z=>by rw [d5] at z;cases z⟩
 keep:=λi h h' st kp=>by
  obtain ⟨h1,h2,⟨a,b',h3⟩,h4,⟨o,q,r⟩⟩:=st
  exact ⟨kp _ (.head _) _ h1,kp _ (.tail _ (.head _)) _ h2,⟨a,b',kp _ (.tail _ (.tail _ (.head _))) _ h3⟩,h4.at λo q=>kp _ (.tail _ (.tail _ (.tail _ (.head _)))) o q,⟨o,kp _ (.tail _ (.tail _ (.tail _ (.tail _ (.head _))))) o q,r⟩⟩
 item:=by
  intro X hP hw hK hc i pins s σ H E I hf st hg
  subst hP hw hK
  obtain ⟨xs,ys,x,y,D,hq2,hx,hy⟩:=hg
  obtain ⟨O,U,p1,_⟩:=I.list D
  obtain ⟨its2,rv2,p2,_⟩:=I.tuple hq2
  obtain ⟨u,hu,ru⟩:=U.get hx
  obtain ⟨v,hv,rvv⟩:=rv2.get hy
  have Z:O.toArray[i]? = some u:=by simpa using hu
  have zl:n+4<s.heap.objs.size:=zA st.z
  refine vC (I.ok.hd hc) h1 h2 st p1.isList (λu' hu2=>⟨_,v,p2,by simpa using hv,λh' w1 w2 w3 w4 w5 w6 w7=>?_⟩) λhn=>by rw [Z] at hn;cases hn
  obtain rfl:=ya (Z.symm.trans hu2)
  refine ⟨_,rfl,wpAny_letOwnedTupleGo_zip w1 λh'' v1 v2=>?_⟩
  have B:Heap.SameBut (n+4) h' h'':=v2
  have fresh:H s.heap.objs.size=none:=I.hok.fresh (zx _)
  have up:∀b o,b ∉ Yh n->s.heap.get? b=some o->h''.get? b=some o:=λb o q1 q=>B.extBut b o (λz=>q1 (z▸.head _)) (w7 b o q1 q)
  have I1:Inv X pins σ (upd H s.heap.objs.size (.tup [x,y])) { s with heap:=h'',toks:=s.toks }:=I.moved hf up (λb _ q=>aJ (zH q)) ((I.hok.moved (λb J=>(hf b J).1) up).track fresh
   ⟨by show 2<=sizeLine;decide,[u,v],.cons ru (.cons rvv .nil),⟨_,B.extBut _ _ (Nat.ne_of_gt zl) w6,rfl,_,rfl⟩⟩)
  refine ⟨.ref s.heap.objs.size,_,I1,rfl,⟨_,x,y,rfl,fresh,λzs Y=>by rw [I.rW Y D];exact hx,λzs Y=>by rw [I.HX Y hq2];exact hy,rfl⟩,⟨v1,B.extBut _ _ (G7 n rfl) w2,⟨u,v,B.extBut _ _ (G7 n rfl) w3⟩,w4.at λo q=>B.extBut _ o (G7 n (i:=0) rfl) q,?_⟩,λb J=>?_⟩
  ·obtain ⟨o,q,r⟩:=w5
   exact ⟨o,B.extBut _ o (G7 n rfl) q,r⟩
  ·rw [aJ (zH (Nat.lt_of_le_of_lt (Fb J).2 zl))];exact (hf b J).1
 done:=by
  intro X hP hw hK hc i pins s σ H E I hf st hg
  subst hP hw hK
  obtain ⟨xs,D,hend⟩:=hg
  obtain ⟨O,U,p1,_⟩:=I.list D
  have l1':=U.length
  exact vC (I.ok.hd hc) h1 h2 st p1.isList (λx hx=>by have:=(yr.mp hx).1;simp at this;omega) λ_ h' eb=>⟨rfl,I.moved (t':=s.toks) hf eb (λ_ _ _=>rfl) (I.hok.moved (λb J=>(hf b J).1) eb)⟩
 self:=λ_ _ _ _ _ st h=>wpAny_pyIter_zip st.z h
theorem Jo {s:Shared} (J:s.heap.IsList l1 xs) (I:s.heap.IsTuple l2 ys)
  (h:∀h',IsZip h' (s.heap.objs.size+4) (s.heap.objs.size+2) (s.heap.objs.size+3) .none->IsPair h' (s.heap.objs.size+2) (.ref s.heap.objs.size) (.ref (s.heap.objs.size+1))->IsPair h' (s.heap.objs.size+3) .none .none->
   h'.IsListIter s.heap.objs.size l1 0->h'.IsTupleIter (s.heap.objs.size+1) l2 0->(∀c o,s.heap.get? c=some o->h'.get? c=some o)->Q (.ref (s.heap.objs.size+4)) { s with heap:=h' }):wpAny (model prog w) A (call (.type "zip") [.ref l1,.ref l2]) Q E s:=by
 let g1:Heap:=s.heap.push { cls:=.type "list_iterator",data:=.fields #[.ref l1,.int 0 0] }
 let g2:Heap:=g1.push { cls:=.type "tuple_iterator",data:=.fields #[.ref l2,.int 0 0] }
 let g3:Heap:=g2.push { cls:=.type "tuple",data:=.seq #[.ref s.heap.objs.size,.ref g1.objs.size] }
 let g4:Heap:=g3.push { cls:=.type "tuple",data:=.seq #[.none,.none] }
 let g5:Heap:=g4.push { cls:=.type "zip",data:=.fields #[.none,.bool false,.bool false,.ref g2.objs.size,.ref g3.objs.size] }
 have B:g1.objs.size=s.heap.objs.size+1:=xo ..
 have z:g2.objs.size=s.heap.objs.size+2:=by rw [xo,B]
 have n:g3.objs.size=s.heap.objs.size+3:=by rw [xo,z]
 have Y:g4.objs.size=s.heap.objs.size+4:=by rw [xo,n]
 have M:Meets (Builtin.«zip.__new__» ⟨[.type "zip",.ref l1,.ref l2],[]⟩) (λ_ R s'=>s'=s/\R (.ok (.ret (.ref g4.objs.size))) { s with heap:=g5 }):=.of_wp λprog w A R s' h=>by
  obtain ⟨e,h⟩:=h
  subst e
  obtain ⟨hp,g,d,tk,os⟩:=s'
  have hsub:=sub_zip
  have U:Heap.IsList (Shared.heap ⟨hp,g,d,tk,os⟩) l1 xs:=J
  have O:Heap.IsTuple (Shared.heap ⟨hp.push { cls:=.type "list_iterator",data:=.fields #[.ref l1,.int 0 0] },g,d,tk,os⟩) l2 ys:=Heap.IsTuple.push I _
  wp_walk using wpAny_pyIter_list U,wpAny_pyIter_tuple O
  exact ⟨_,rfl,h⟩
 refine callType_new F.called_zip (by decide) (F.typeCall_zip_2 _ _) (F.newCall_zip_2 _ _) (λobj=>F.args_object_init_3 obj _ _) F.entry_zip_new M ⟨rfl,?_⟩
 have k5:∀{c o},g4.get? c=some o->g5.get? c=some o:=zu _
 have k4:∀{c o},g3.get? c=some o->g5.get? c=some o:=λq=>k5 (zu _ q)
 have k3:∀{c o},g2.get? c=some o->g5.get? c=some o:=λq=>k4 (zu _ q)
 have k2:∀{c o},g1.get? c=some o->g5.get? c=some o:=λq=>k3 (zu _ q)
 have D:g5.get? g4.objs.size=some _:=zz _ rfl
 have Z:g5.get? g3.objs.size=some _:=k5 (zz _ rfl)
 have q3:g5.get? g2.objs.size=some _:=k4 (zz _ rfl)
 have q2:g5.get? g1.objs.size=some _:=k3 (zz _ rfl)
 have q1:g5.get? s.heap.objs.size=some _:=k2 (zz _ rfl)
 show _/\_
 rw [z,n,Y] at D
 rw [B,z] at q3
 rw [n] at Z
 rw [B] at q2
 rw [Y]
 exact ⟨⟨_,D,rfl⟩,h _ D q3 Z ⟨_,q1,rfl,rfl⟩ ⟨_,q2,rfl,rfl⟩ λc o x=>k2 (zu _ x)⟩
section
variable {X:Cx} {C:Pc} {a b c e:Expr} {cI:TAQ} {pos ps ps2:Pos} {K:PySem.W.Frag} {F:Hp}
def aaV (K:PySem.W.Frag) (n:TA):TI:=λσ H R=>n σ H λvs H1=>∃a b xs ys,vs=[.ref a,.ref b]/\iV K H1 a xs/\Dm K H1 b ys/\R (Yi K a b) H1
theorem Sh {ta:TA} {es:List Expr} {k:Nat} {pos J n:Pos} (hg:Gl X "zip") (hm:X.mg "zip"=none) (ha:PA X [a,b] ta) (hs:starEach [a,b] X.env=[(false,eval a X.env),(false,eval b X.env)]:=by rfl) (B:starEach [b] X.env=[(false,eval b X.env)]:=by rfl) :
  PI X (.Tuple es k pos) (.Call (.Name "zip" J) [a,b] [] n) (aaV X.K ta):=by
 intro pins s σ H R I h
 refine Call_ (gM (u:=.type "zip") I hg hm (by kernel_rfl) (zW (bu (ha n pins s σ H _ I h) λus z ⟨vs,H1,D,r1,q1⟩=>?_) (by rw [hs,B]) (by rw [B];rfl)))
 obtain ⟨l1,l2,xs,ys,e,Z,Y,q⟩:=q1
 subst e
 cases r1 with
 | cons r rr=>
  cases rr with
  | cons r' rr=>
   cases rr
   cases r
   cases r'
   obtain ⟨ahG,rv1,p1,hz1⟩:=D.list Z
   obtain ⟨its2,rv2,J,hz2⟩:=D.tuple Y
   have U:l1<z.heap.objs.size:=by obtain ⟨o,q,_⟩:=p1.isList;exact zA q
   have O:l2<z.heap.objs.size:=by obtain ⟨o,q,_⟩:=J;exact zA q
   refine Jo p1.isList J λh1 hz hTI hTO hi1 hi2 up1=>?_
   refine wpAny_pyIter_zip (s:={ z with heap:=h1 }) hz ⟨_,Yh z.heap.objs.size,_,_,H1,rfl,D.kept (t':=z.toks) up1,Jm U O,⟨hz,hTI,⟨_,_,hTO⟩,hi1,hi2⟩,λb hb=>?_,q⟩
   exact D.VH (Fb hb).1 (D.hok.fresh (Fb hb).1)
def Qn (K:PySem.W.Frag) (a:Addr) (ns:List Int):Prop:=∃(o:Obj) (z:Array Value) (n:Nat),K.lookup a=some o/\o.cls=.type "tuple"/\o.data=.seq z n/\z.size<=sizeLine/\Vals (ns.map V.int) z.toList
theorem Qn.sq {ns:List Int} (h:Qn K x ns):Dm K H x (ns.map V.int):=.inr h
theorem Sq {ds:List D} {ns:List Int} (h:F x=some (.lst vs)) (r:aN K F ds vs) (h':Qn K y ns) (hl:ds.length=ns.length):JQ K (Yi K x y) ds.length (λi=>.tup [ds.getD i .non,.int (ns.getD i 0)]) F:=by
 have sq:∀{B H:Hp},aP B H->aP F B->iV K H x vs:=λn s=>.of (n _ _ (s _ _ h))
 have I:∀i,i<ds.length->(ns.map V.int)[i]? = some (.int (ns.getD i 0)):=λi hi=>by
  rw [zN,zw,zg (by omega)];rfl
 refine ⟨λi B H n s hi=>?_,λi B H v H' n s hi z=>?_,λB H n s=>⟨vs,sq n s,by rw [r.length];exact zx _⟩⟩
 ·obtain ⟨v,e1,_⟩:=r.get (getD_some hi)
  exact ⟨vs,_,v,_,sq n s,h'.sq,e1,I i hi⟩
 ·obtain ⟨t,u,w,e1,e2,e3,Y,U⟩:=z
  subst e1 U
  obtain ⟨Z,O,J⟩:=r.get (getD_some hi)
  have q1:=e3 vs (sq n s)
  have q2:=Y _ h'.sq
  rw [O] at q1;cases q1
  rw [I i hi] at q2;cases q2
  exact .inr ⟨t,_,_,e2,rfl,rfl,rfl,.cons (J.mono s) (.cons (.int _) .nil)⟩
def Yj (K:PySem.W.Frag) (n:TAQ):uP:=λp Q=>n p λes p1=>∃e f xs y ns,es=[e,f]/\e=.fz (.lst xs)/\f=.fz (.atom (.ref y))/\Qn K y ns/\xs.length=ns.length/\Q xs.length (λi=>.tup [xs.getD i .non,.int (ns.getD i 0)]) p1
theorem NZ {k:Nat} (hK:X.K=C.K) (hg:Gl X "zip") (hm:X.mg "zip"=none) (ha:PA X [a,b] (gJ C cI)) (Z:starEach [a,b] X.env=[(false,eval a X.env),(false,eval b X.env)]:=by rfl) (z:starEach [b] X.env=[(false,eval b X.env)]:=by rfl):PI X (.Tuple ts k pos) (.Call (.Name "zip" ps) [a,b] [] ps2) (vh C (Yj X.K cI)):=
 QI.mk (Sh hg hm ha Z z) λp σ F H R U Y=>dR U Y λes1 p1 J F1 H1 n O sh B I=>by
  obtain ⟨e1,e2,xs,y,ns,h0,h1,h2,h3,h4,q⟩:=I
  obtain ⟨v,w,rfl,er,D⟩:=uL B h0
  subst h1 h2
  cases er with
  | lst q1 r1=>
   cases D with
   | atom _=>exact ⟨_,_,_,_,rfl,.of (n.sub _ _ q1),h3.sq,_,_,p1,F1,n,O,sh,by rw [hK] at h3 ⊢;exact Sq q1 r1 h3 h4,q⟩
def N5 (K:PySem.W.Frag) (n:TAQ):TQ:=λp Q=>n p λes p1=>∃(e:Ev) (x:Addr) (ns:List Int),es=[e]/\lk p1 e=.atom (.ref x)/\Qn K x ns/\Q (.fz (.int ns.length)) p1
theorem G8 (Y:Gl X "len") (U:X.mg "len"=none) (Z:PA X [e] (gJ C cI)) (he:starEach [e] X.env=(false,eval e X.env)::starEach [] X.env:=by rfl):PE X (.Call (.Name "len" ps) [e] [] pos) (Up C (N5 X.K cI)):=
 QE.mk (eY (uY rfl) Y U PySem.boot_len Z (he:=he)) λp σ F H R J O=>dR J O λes1 p1 D F1 H1 n I sh z B=>by
  obtain ⟨e1,x,ns,h1,h2,h3,q⟩:=B
  obtain ⟨v,rfl,er⟩:=qO z h1
  rw [dI er h2]
  exact ⟨x,_,rfl,.inr h3.sq,aZ n I sh (by rw [z9];exact .int _) q⟩
end
open PyProof.Rows.KTD (Rows datumAt inKeys isSome_datumAt kt_dictFind_strs)
structure KTb (K:PySem.W.Frag) (a:Addr) (T:List (Str × Addr)):Prop where
 lo:(a == sysModules)=false
 ex:∃(o:Obj) (es:Array DictEntry) (ep:Nat),K.lookup a=some o/\o.ExactDict/\o.data=.dict es ep/\Rows (λd v=>v=Value.ref d) es.toList T
section
variable {prog:Program} {w:World} {A:Around} {E:Value->Shared->Prop} {s:Shared} {K:PySem.W.Frag} {a:Addr} {T:List (Str × Addr)} {k:Str} {tk:Tok}
theorem KTb.ty (t:KTb K a T) (I:K.In s.heap):s.TypeIs (.ref a) "dict":=by
 obtain ⟨o,_,_,h,x,_⟩:=t.ex
 exact ⟨o,I _ _ h,x.1⟩
theorem KTb.get (t:KTb K a T) (I:K.In s.heap) (q:Q ((datumAt k T).map Value.ref) { s with toks:=s.toks+1 }):wpAny (model prog w) A (dictGet a (.str k tk)) Q E s:=by
 obtain ⟨o,es,J,h,x,hd,n⟩:=t.ex
 have B:=I _ _ h
 obtain ⟨l⟩:=es
 have hf:((l.find? λe=>e.key.isStr k).map (·.val))=(datumAt k T).map Value.ref:=by
  cases z:datumAt k T with
  | none=>exact n.find_none z
  | some d=>obtain ⟨v,e1,e2⟩:=n.find_some z;rw [e1,e2];rfl
 rw [<-hf] at q
 have D:findBy (λk v=>v.isStr k) ⟨l⟩ k=(l.find? λe=>e.key.isStr k).map (·.val):=by simp [findBy]
 rw [<-D,findBy_of_findIdx?] at q
 unfold dictGet
 try with_reducible refine zU ?_
 refine zd (wpAny_pyHash_str (zd (kt_dictFind_strs (s:={ s with toks:=s.toks+1 }) B hd (by simpa using n.exact) ?_)))
 cases z:(⟨l⟩:Array DictEntry).findIdx? λe=>e.key.isStr k with
 | none=>rw [z] at q;exact zB q
 | some i=>rw [z] at q;exact zd (wpAny_dictEntries (s:={ s with toks:=s.toks+1 }) B hd (zB q))
theorem KTb.aaW (t : KTb K a T) (I : K.In s.heap) (q : Q (.bool (!inKeys k T)) { s with toks := s.toks + 1 }) : wpAny (model prog w) A (compareOp .NotIn (.str k tk) (.ref a)) Q E s := by
  have ty := t.ty I
  rw [← isSome_datumAt] at q
  show wpAny _ _ (do return .bool (!(← contains (.ref a) (.str k tk)))) Q E s
  refine zd ?_
  unfold contains
  try with_reducible refine zU ?_
  refine zd (wpAny_specialOf ty slot_dict_contains.lookup ?_)
  show wpAny _ _ (if (some (Value.builtin "dict.__contains__") == some Value.none) = true then _ else _) _ E s
  rw [zh (by rw [beq_builtin_none]; exact y9)]
  refine zd (wpAny_callSpecialUnlessNone?_slot (name := Str.ofString "__contains__") ty slot_dict_contains (wpAny_call_entry slot_dict_contains ty entry_dict_contains ?_ (args_dict_contains _ _)))
  show wpAny _ _ (dictGet a (.str k tk) >>= _) _ _ s
  refine zd (t.get I ?_)
  cases z : datumAt k T with
  | some d =>
    rw [z] at q
    show wpAny _ _ (ret (.bool true)) _ _ _
    exact zB ⟨_, rfl, yj (zB q)⟩
  | none =>
    rw [z] at q
    show wpAny _ _ (Builtin.Dict.pendingKey? a (.str k tk) >>= _) _ _ _
    exact zd (wpAny_pendingKey_other t.lo (zB ⟨_, rfl, yj (zB q)⟩))
theorem KTb.item {n z:Expr} {Q:Value->Shared->Prop} {d:Addr} (t:KTb K a T) (I:K.In s.heap) (hd:datumAt k T=some d) (q:Q (.ref d) { s with toks:=s.toks+1 })
  (B:subscripted z false (.ref a) (.str k tk)=operate [.ref a,.str k tk] (getItem (.ref a) (.str k tk))) (D:∀r,letTemporaryGo n (.ref a) r=pure ()):wpAny (model prog w) A (subscriptTail n z (.ref a) (.str k tk)) Q E s:=by
 have ty:=t.ty I
 refine subscriptTail_builtin ty slot_dict_getitem.lookup ?_ B D
 unfold getItem
 try with_reducible refine zU ?_
 refine zd (wpAny_sequenceKey ty (by decide) ?_)
 refine zd (wpAny_callSpecial?_slot (name:=Str.ofString "__getitem__") ty slot_dict_getitem (wpAny_call_entry slot_dict_getitem ty entry_dict_getitem ?_ (args_dict_getitem _ _)))
 show wpAny _ _ (dictGet a (.str k tk) >>= _) _ _ s
 refine zd (t.get I ?_)
 rw [hd]
 exact zB ⟨_,rfl,zB q⟩
end
section
variable {X:Cx} {C:Pc} {e:Expr} {x:Str} {a:Addr} {T:List (Str × Addr)} {ta:TQ} {pos pos':Pos}
def N7 (T:List (Str × Addr)) (n:TQ):m8:=λp Q=>n p λe p1=>∃w,lk p1 e=.str w/\Q (!inKeys w T) p1
theorem N8 (t:KTb X.K a T) (hg:Gl X x) (hm:X.mg x=some (.ref a)) (he:PE X e (Up C ta)) (hd:(x == ("__debug__":Str))=false:=by decide) (hb:behindInMarks .NotIn (.Name x pos')=false:=by rfl):PT X (.Compare e [.NotIn] [.Name x pos'] pos) (gf C (N7 T ta)):=by
 have ho:g8 X (compareOp .NotIn) (λu v H Q=>∃w,u=.str w/\v=.ref a/\Q (.bl (!inKeys w T)) H):=λpins s σ H u v v1 v2 Q I Y U n=>by
  obtain ⟨w,e1,e2,q⟩:=n
  subst e1 e2
  obtain ⟨t1,rfl⟩:=Y
  obtain rfl:=U
  exact t.aaW I.rQ ⟨.bl _,H,I.kept (t':=s.toks+1) λ_ _ z=>z,rfl,q⟩
 exact QT.mk (gD ho he (cB (v:=.ref a) hg hm rfl hd) hb) λp σ F H R O Z=>up1 O Z λe1 p1 v1 F1 H1 B J sh D n=>by obtain ⟨w,h1,q⟩:=n;exact ⟨w,bI D h1,rfl,_,rfl,p1,F1,B,J,sh,q⟩
def Yk (T:List (Str × Addr)) (n:TQ):TQ:=λp Q=>n p λe p1=>∃w d,lk p1 e=.str w/\datumAt w T=some d/\Q (.fz (.atom (.ref d))) p1
theorem Cq (t:KTb X.K a T) (hg:Gl X x) (hm:X.mg x=some (.ref a)) (he:PE X e (Up C ta)) (hs:nG e) (hd:(x == ("__debug__":Str))=false:=by decide):PE X (.Subscript (.Name x pos') e pos) (Up C (Yk T ta)):=by
 have hr:PE X (.Subscript (.Name x pos') e pos) (ZK (λu v H Q=>∃w d,u=.ref a/\v=.str w/\datumAt w T=some d/\Q (.ref d) H) (tC (.ref a)) (Up C ta)):=λpins s σ H Q I h=>
  Subscript_ (Qz (cB (v:=.ref a) hg hm rfl hd) he I h λv1 v2 O u v H2 J r1 Z n=>by
   obtain ⟨w,d,e1,e2,e3,q⟩:=n
   subst e1 e2
   obtain rfl:=r1
   obtain ⟨t2,rfl⟩:=Z
   exact t.item J.rQ e3 ⟨.ref d,H2,J.kept (t':=O.toks+1) λ_ _ z=>z,rfl,q⟩ (hs _ _) λr=>rfl)
 exact QE.mk hr λp σ F H R Y ht=>up1 Y ht λe1 p1 v1 F1 H1 B U sh D n=>by obtain ⟨w,d,h1,h2,q⟩:=n;exact ⟨w,d,rfl,bI D h1,h2,aZ B U sh (.atom _) q⟩
end
theorem Inv.laidN {X:Cx} {s:Shared} {h':Heap} (I:Inv X pins σ H s) (k:∀b u,s.heap.get? b=some u->h'.get? b=some u) (D:s.heap.get? a=none) (new:bK X.prog X.w (upd H a o) h' a o) :
  H a=none/\Inv X pins σ (upd H a o) { s with heap:=h',toks:=t' }:=by
 have B:H a=none:=by
  cases q:H a with
  | none=>rfl
  | some u=>obtain ⟨_,e⟩:=(I.hok _ _ q).ex;rw [D] at e;cases e
 refine ⟨B,I.un ⟨λb u q _ _ _=>k b u q,λb u q _ _ _=>⟨u.slots,k b u q⟩,λb u q n _=>?_,λb u q _=>⟨u,k b u q⟩,λb u xs q=>?_⟩ ((I.hok.kept k).track B new)⟩
 ·rw [aJ (λz=>by rw [z,D] at q;cases q)];exact n
 ·rw [aJ (gK q B)];exact q
theorem Cr {A:Around} {s:Shared} {vs:List Value} (n:s.heap.IsList l (x::vs).toArray) (Z:A.handled=none) (hz:vs.length<sizeLine)
  (q:∀D h' tk,s.heap.get? D=none->(∀b o,s.heap.get? b=some o->h'.get? b=some o)->h'.get? D=some { cls:=.type "list",data:=.seq vs.toArray }->Q [x,.ref D] { s with heap:=h',toks:=tk }):wpAny (model prog w) A (unpackItems (.ref l) 2 (some 1)) Q E s:=by
 have lt:l<s.heap.objs.size:=by obtain ⟨o,U,_⟩:=n;exact zA U
 have ne:l≠s.heap.objs.size:=zH lt
 unfold unpackItems
 refine zd ?_
 unfold notIterableAtAll
 refine zd (wpAny_specialOf n.typeIs slot_list_iter.lookup (zB ?_))
 simp only [Bool.false_eq_true,if_false]
 refine zd (zU (wpAny_pyIter_list n (zd (zU (PySem.W.kun_draw ne 1 0 _ _ ⟨_,zz _ rfl,rfl,rfl⟩ (n.push _) (by simp) λh1 O I=>?_)))))
 have J:h1.IsList l (x::vs).toArray:=(n.push _).extBut I.extBut ne
 obtain ⟨oi,B,_⟩:=id O
 obtain ⟨ol,z,_⟩:=id J
 refine zd (zU (PySem.W.kun_collect (s:={ s with heap:=h1 }) (T:="list_iterator") (.inr (.inr (.inl rfl))) (Walks.list (A:=A.in1) Z s.heap.objs.size l ne (x::vs).toArray) (λj u st=>st.1.typeIs) (k:=1) (by simp) ⟨O,J⟩ (zA B) (zA z) (λh2 tk Y=>?_) (by show _<=_;simp;omega)))
 have kp:∀b o,s.heap.get? b=some o->h2.get? b=some o:=λb o e=>Y b o (zH (zA e)) (I.extBut b o (zH (zA e)) (zu _ e))
 show wpAny _ _ (newList _ >>= λd=>pure _) _ _ _
 refine zd (wpAny_newList (s:={ s with heap:=h2,toks:=tk }) (zB ?_) ?_)
 ·have fr:s.heap.get? h2.objs.size=none:=by
   cases y:s.heap.get? h2.objs.size with
   | none=>rfl
   | some o=>exact absurd (zA (kp _ _ y)) (xi _)
  have e1:(List.take ((List.drop 1 (x::vs).toArray.toList).length - (2 - 1 - 1)) (List.drop 1 (x::vs).toArray.toList))=vs:=by simp
  have:=q h2.objs.size (h2.push { cls:=.type "list",data:=.seq vs.toArray }) tk fr (λb o e=>zu _ (kp b o e)) (zz _ rfl)
  rw [e1]
  simpa using this
 ·simp;omega
section
variable {X:Cx} {C:Pc} {a b:Expr} {pos pos':Pos} {K:PySem.W.Frag}
theorem Ss {k:Nat} (hc:X.calm=true) (ha:PG X a ta) (hb:PG X b tb) (J:(assignEach [a,.Starred b pos'] X.env)=[(false,assign a X.env),(true,assign b X.env)]:=by rfl) :
  PG X (.Tuple [a,.Starred b pos'] k pos) (λv σ H Q=>∃l x xs,v=.ref l/\iV X.K H l (x::xs)/\∀D,H D=none->ta x σ (upd H D (.lst xs)) λn H1=>tb (.ref D) n H1 Q):=by
 intro pins s σ H v u Q I r ⟨l,x,xs,e,hq,h⟩
 subst e
 obtain rfl:=r
 obtain ⟨its,Z,ht,O⟩:=I.list hq
 cases Z with
 | @cons _ y _ ys rx rs=>
 rw [assign_Tuple]
 refine zd (xq ?_)
 unfold unpack
 rw [J]
 refine zd (zU (Cr ht.isList (I.ok.hd hc) (by rw [<-rs.length];simp at O;omega) λD h' tk d0 kp hD=>?_))
 obtain ⟨J,I1⟩:=I.laidN (o:=.lst xs) (t':=tk) kp d0 ⟨by simp at O;omega,ys,0,rs,hD⟩
 refine assignInOrder_cons (bu (ha pins _ σ _ x y _ I1 rx (h D J)) λ_ Y B=>?_)
 obtain ⟨n,H1,J1,q1⟩:=B
 refine assignInOrder_cons (bu (hb pins Y n H1 (.ref D) (.ref D) _ J1 rfl q1) λ_ U B=>?_)
 obtain ⟨z,H2,J2,q2⟩:=B
 exact vU pins U z H2 [] [] Q J2 .nil ⟨rfl,q2⟩
def Fd (g g':sX):sX:=λx p Q=>∃y ys,x=.lst (y::ys)/\g y p λp1=>g' (.lst ys) p1 Q
theorem N_ {k:Nat} (hK:X.K=C.K) (hc:X.calm=true) (ha:PG X a (I_ C g)) (hb:PG X b (I_ C g')) (hn:(assignEach [a,.Starred b pos'] X.env)=[(false,assign a X.env),(true,assign b X.env)]:=by rfl):PG X (.Tuple [a,.Starred b pos'] k pos) (I_ C (Fd g g')):=
 QG.mk (Ss hc ha hb hn) λp σ F H x v R J Z n=>by
  obtain ⟨y,ys,hx,q⟩:=n
  subst hx
  cases Z with
  | lst q1 r1=>
   cases r1 with
   | @cons _ _ _ vr ry ryr=>
    refine ⟨_,_,_,rfl,.of (J.sub _ _ q1),λD hD=>?_⟩
    have sm:=bY (J.free hD).1 (HO.lst vr)
    refine ⟨p,_,y,_,J.put hD,ry.mono sm,q,λU H1 n=>?_⟩
    obtain ⟨p1,F1,I,z,q1⟩:=n
    exact ⟨p1,F1,.lst ys,R,I,.lst (z _ _ aL) (ryr.mono (sm.trans z)),q1,λO H2 n=>by obtain ⟨p2,F2,B,Y,q2⟩:=n;exact ⟨p2,F2,B,sm.trans (z.trans Y),q2⟩⟩
end
def Kp (C:Pc) (H:Hp):Prop:=∀a o,C.H0 a=some o->(∀q∈C.bs,q.2≠a)->H a=some o
theorem pR {C:Pc} {ds:List D} (h:∀q∈C.bs,∃xs,(ds.map Sl.d)[q.1]? = some (.bor xs)):C.bs=[]:=by
 cases e:C.bs with
 | nil=>rfl
 | cons q r=>
  obtain ⟨xs,z⟩:=h q (by rw [e];exact zt)
  rw [zN] at z
  cases y:ds[q.1]? with
  | none=>rw [y] at z;cases z
  | some d=>rw [y] at z;cases z
section
variable {X:Cx} {C:Pc} {a b c e o:Expr} {ta tb tc:TQ} {pos apos:Pos} {K:PySem.W.Frag} {p:aO} {σ:St} {F H:Hp} {st:Stmt} {es:List Expr} {cI:TAQ} {x:Str} {XE:Addr->aO->Prop} {t u:nj}
theorem RS.kp (rs:RS C p σ F H):Kp C H:=λa o h n=>rs.keep a o h n
def Fe (C:Pc) (S:JK) (t:TAQ):TN:=λp Q=>t p λes p1=>∃as,d_ p1 es=some as/\(fP es).Nodup/\∀H,Kp C H->S H as λr n=>Q r (back p1 es n)
theorem fB {ps:List Str} {k:Nat} {S:JK} {p0:Pos} (hK:X.K=C.K) (D:aM X.K X.mg x st ps) (G:bV X.prog X.w X.K X.mg X.base m7 k D.f D.fd ps (Zh X.K S)) (hr:bO k X.A) (ha:PA X (e::es) (gJ C cI))
  (hg:Gl X x:=by rfl) (J:(x == ("__debug__":Str))=false:=by decide) (he:starEach (e::es) X.env=(false,eval e X.env)::starEach es X.env:=by rfl) (hpl:(backTo pos (starEach es X.env)).any (·.1)=false:=by rfl) :
  PE X (.Call (.Name x p0) (e::es) [] pos) (m9 C (Fe C S cI)):=
 QN.mk (sH D G hr ha hg J he hpl) λp σ F H R Y ht=>dR Y ht λes1 p1 O F1 H1 n U sh z h=>by
  obtain ⟨as,h1,nd,q⟩:=h
  rw [zX,hK]
  refine ⟨as,F1,_,n.sub,(iu n z h1 nd).1,q H1 n.kp,λr as' v F' H' po hq=>?_⟩
  obtain ⟨I,B,Z⟩:=n.call z h1 nd po
  exact ⟨r,_,F',I,U.trans po.ext,sh.trans B,Z,hq⟩
def tZ (C:Pc) (S:JK) (I:Addr) (m:Str) (z:TQ) (B:TAQ):TN:=λp Q=>z p λD p1=>∃x dx fs,lk p1 D=.atom (.ref x)/\C.H0 x=some (.ins I dx fs)/\C.bs=[]/\fs.lookup m=none/\B p1 λes p2=>∃as,d_ p2 (.fz (.atom (.ref x))::es)=some as/\(fP es).Nodup/\∀H,Kp C H->S H as λr n=>Q r (back p2 (.fz (.atom (.ref x))::es) n)
theorem rK {m : Str} {k : Nat} (hK : X.K = C.K) (ho : PE X o (Up C to)) (c : vW X.K Kl) (hm : Meth X.K Kl m fa) (G : bV X.prog X.w X.K X.mg X.base m7 k fa fd ps (Zh X.K S)) (hr : bO k X.A) (hb : Binds X.K fd ps []) (ha : PA X (e :: es) (gJ C cI))
    (hst : starEach (e :: es) X.env = (false, eval e X.env) :: starEach es X.env := by rfl) (hpl : (backTo pos (starEach es X.env)).any (·.1) = false := by rfl)
    (ht : eval (.Call (.Attribute o m apos) (e :: es) [] pos) X.env = (do
      let ov ← eval o X.env
      standAt apos.atName
      let (f, first) ← holding [ov] (getMethod ov m pl)
      callWith pos f first (backTo pos (starEach (e :: es) X.env)) (backToKw pos (keywordEach [] X.env))) := by rfl) :
    PE X (.Call (.Attribute o m apos) (e :: es) [] pos) (m9 C (tZ C S Kl m to cI)) :=
  QN.mk (Gh ho c hm G hr hb .nil Bk ha hst hpl ht) λp σ F H R rs ht => up1 rs ht λe1 p1 v1 F1 H1 z s1 U G4 Z => by
    obtain ⟨x, dx, fs, h1, h2, h2', h3, ht2⟩ := Z
    have ev := dI G4 h1
    subst ev
    refine ⟨x, dx, fs, rfl, z.keep _ _ h2 (λq D => by rw [h2'] at D; cases D), h3, dR z ht2 λes2 p2 I F2 H2 n s2 O BJ Z => ?_⟩
    obtain ⟨as, g1, nd, q⟩ := Z
    have B : pG C.K p2 σ F2 (.fz (.atom (.ref x)) :: es2) (.ref x :: I) := .cons (show Rep _ _ (.atom (.ref x)) _ from .atom _) BJ
    rw [zX, hK]
    refine ⟨as, F2, _, n.sub, (iu n B g1 nd).1, q H2 n.kp, λr as' v F' H' po D => ?_⟩
    obtain ⟨Y, J, rr⟩ := n.call B g1 nd po
    exact ⟨r, _, F', Y, s1.trans (s2.trans po.ext), U.trans (O.trans J), rr, D⟩
def wY (C:Pc) (S:XHp) (J:Addr) (m:Str) (I:Addr->aO->Prop) (z:TQ) (B:TAQ):TN:=λp _=>z p λD p1=>∃x dx fs,lk p1 D=.atom (.ref x)/\C.H0 x=some (.ins J dx fs)/\C.bs=[]/\fs.lookup m=none/\B p1 λes p2=>∃as n,d_ p2 (.fz (.atom (.ref x))::es)=some as/\(fP es).Nodup/\(∀H,Kp C H->S H as n)/\I n (back p2 (.fz (.atom (.ref x))::es) as)
theorem Su {m : Str} {k : Nat} (hK : X.K = C.K) (ho : PE X o (Up C to)) (c : vW X.K Kl) (hm : Meth X.K Kl m fa) (G : bV X.prog X.w X.K X.mg X.base (oY X.prog X.w) k fa fd ps (RW X.K S)) (hr : bO k X.A) (hb : Binds X.K fd ps [])
    (lk : pD X (GX C XE)) (ha : PA X (e :: es) (gJ C cI))
    (U : starEach (e :: es) X.env = (false, eval e X.env) :: starEach es X.env := by rfl) (hpl : (backTo pos (starEach es X.env)).any (·.1) = false := by rfl)
    (O : eval (.Call (.Attribute o m apos) (e :: es) [] pos) X.env = (do
      let ov ← eval o X.env
      standAt apos.atName
      let (f, first) ← holding [ov] (getMethod ov m pl)
      callWith pos f first (backTo pos (starEach (e :: es) X.env)) (backToKw pos (keywordEach [] X.env))) := by rfl) :
    PE X (.Call (.Attribute o m apos) (e :: es) [] pos) (m9 C (wY C S Kl m XE to cI)) :=
  QN.mk (NP ho c hm G hr hb lk ha U hpl O) λp σ F H R rs O => up1 rs O λe1 p1 v1 F1 H1 z s1 Ql G4 I => by
    obtain ⟨x, dx, fs, h1, h2, Y, h3, J⟩ := I
    have ev := dI G4 h1
    subst ev
    refine ⟨x, dx, fs, rfl, z.keep _ _ h2 (λq hq => by rw [Y] at hq; cases hq), h3, dR z J λZ p2 D F2 H2 n s2 Qk BJ I => ?_⟩
    obtain ⟨as, Cl, g1, nd, hS, q⟩ := I
    have B : pG C.K p2 σ F2 (.fz (.atom (.ref x)) :: Z) (.ref x :: D) := .cons (show Rep _ _ (.atom (.ref x)) _ from .atom _) BJ
    rw [hK]
    exact ⟨as, F2, Cl, n.sub, (iu n B g1 nd).1, hS H2 n.kp, λF' H' po => ⟨Cl, rfl, _, F', (n.call B g1 nd po).1, q⟩⟩
def Ff (G:Addr->fK->Prop) (z:TQ) (B:TAQ):TN:=λp Q=>z p λD p1=>∃f S,lk p1 D=.atom (.ref f)/\G f S/\B p1 λes p2=>∃as,d_ p2 es=some as/\(fP es).Nodup/\S as λr n=>Q r (back p2 es n)
theorem Sv (hK:X.K=C.K) (hn:PE X (.Name x p0) (Up C tf)) (hG:∀f S,G f S->∃k fd ps,bV X.prog X.w X.K X.mg X.base m7 k f fd ps (Jb X.K S)/\bO k X.A/\Binds X.K fd ps []/\PySem.W.keepIn X.K (.ref f)=true) (ha:PA X (e::es) (gJ C cI))
  (he:starEach (e::es) X.env=(false,eval e X.env)::starEach es X.env:=by rfl) (hpl:(backTo pos (starEach es X.env)).any (·.1)=false:=by rfl):PE X (.Call (.Name x p0) (e::es) [] pos) (m9 C (Ff G tf cI)):=by
 intro pins s σ H Q I ⟨p,F,R,rs,ht,hq⟩
 refine yR (bu (hn pins s σ H _ I ⟨p,F,_,rs,ht,λv H1 z=>z⟩) λfv s1 zq=>?_)
 obtain ⟨v,H1,I1,r1,e1,p1,F1,GK,Y,O,G4,f,S,h1,h2,ht2⟩:=zq
 have ev:=dI G4 h1
 subst ev
 obtain rfl:=r1
 obtain ⟨k,fd,ps,fn,hr,hb,kp⟩:=hG f S h2
 refine xd (h₀:=X.base) I.ok.mod.Qs kp (bu (ha pos pins s1 σ H1 _ I1 ⟨p1,F1,_,GK,ht2,λvs H2 z=>z⟩) λus s2 ⟨vs,H2,I2,r2,es2,p2,F2,n,U,J,B,as,g1,nd,q⟩=>⟨I2.rQ,?_⟩) he hpl
 refine DG fn hr hb .nil Bk I2 r2 ?_
 rw [zX,hK]
 refine ⟨as,F2,_,n.sub,(iu n B g1 nd).1,q,λr as' v F' H' po hR=>hq v H' ?_⟩
 obtain ⟨Z,D,rr⟩:=n.call B g1 nd po
 exact ⟨r,_,F',Z,Y.trans (U.trans po.ext),O.trans (J.trans D),rr,hR⟩
def wZ (G:Addr->Je->Prop) (I:Addr->aO->Prop) (z:TQ) (B:TAQ):TN:=λp _=>z p λD p1=>∃f S,lk p1 D=.atom (.ref f)/\G f S/\B p1 λes p2=>∃as n,d_ p2 es=some as/\(fP es).Nodup/\S as n/\I n (back p2 es as)
theorem Cu (hK:X.K=C.K) (hn:PE X (.Name x p0) (Up C tf)) (hG:∀f S,G f S->∃k fd ps,bV X.prog X.w X.K X.mg X.base (oY X.prog X.w) k f fd ps (spX X.K S)/\bO k X.A/\Binds X.K fd ps []/\PySem.W.keepIn X.K (.ref f)=true) (lk:pD X (GX C XE)) (ha:PA X (e::es) (gJ C cI))
  (he:starEach (e::es) X.env=(false,eval e X.env)::starEach es X.env:=by rfl) (hpl:(backTo pos (starEach es X.env)).any (·.1)=false:=by rfl):PE X (.Call (.Name x p0) (e::es) [] pos) (m9 C (wZ G XE tf cI)):=by
 intro pins s σ H Q I ⟨p,F,R,rs,ht,hq⟩
 refine yR (bu (hn pins s σ H _ I ⟨p,F,_,rs,ht,λv H1 z=>z⟩) λfv s1 zq=>?_)
 obtain ⟨v,H1,I1,r1,e1,p1,F1,O,s1',Ql,Y,f,S,h1,h2,U⟩:=zq
 have ev:=dI Y h1
 subst ev
 obtain rfl:=r1
 obtain ⟨k,fd,ps,fn,hr,hb,kp⟩:=hG f S h2
 refine xd (h₀:=X.base) I.ok.mod.Qs kp (bu (ha pos pins s1 σ H1 _ I1 ⟨p1,F1,_,O,U,λvs H2 z=>z⟩) λus s2 ⟨vs,H2,D,r2,es2,p2,F2,n,s2',Qk,B,as,Cl,Z,nd,hS,q⟩=>⟨D.rQ,?_⟩) he hpl
 refine wg (E:=λcl _ H'=>∃J,cl=.ref J/\GX C XE J σ H') fn hr hb D r2 ?_ λev s' hx=>?_
 ·rw [hK]
  exact ⟨as,F2,Cl,n.sub,(iu n B Z nd).1,hS,λF' H' po=>⟨Cl,rfl,_,F',(n.call B Z nd po).1,q⟩⟩
 ·obtain ⟨a',J,H',z1,z2,z3,un,hok,tr,C'',z4,g⟩:=hx
  subst z1
  cases z4
  exact lk pins σ H2 s2 H' s' a' J D (D.call' z2 un hok z3 (λb z=>absurd z (by simp))) tr g
def Fg (z:Qm) (t:nj):nj:=λE W p=>z W p λd n p1=>∃c,d=.bl c/\if c=true then E.nx n p1 else t E n p1
theorem Sw {B : Qm} {a : List Stmt} (Z : PE X c (Jg C B)) (ha : gw X a (kJ C t)) (he : ∀ whole, isTrue c X.env whole = (do let v ← whole; standAt c.pos; holding [v] (truthy v)) := by intro _; rfl) : PS X (.If (.UnaryOp .Not c npos) a [] pos) (kJ C (Fg B t)) :=
  VS.mk (JV (JR (JP Z he)) ha vQ) λW p σ F H E O ok Y => ⟨W, p, F, _, O, ok, Y, λd v I p1 J H1 n z D U q => by
    obtain ⟨k, hd, q⟩ := q
    subst hd
    cases U
    refine ⟨k, rfl, ?_⟩
    cases k with
    | true => exact ⟨I, p1, J, n, z, D, q⟩
    | false => exact ⟨I, p1, J, E, n, z, q, wV D⟩⟩
def vOr (t u:nj):nj:=λE W p=>t E W p\/u E W p
theorem v_or (h1:PS X st (kJ C t)) (h2:PS X st (kJ C u)):PS X st (kJ C (vOr t u)):=λpins s σ H B I D=>by
 obtain ⟨W,p,F,E,z,ok,n,l⟩:=D
 rcases n with n|n
 ·exact h1 pins s σ H B I ⟨W,p,F,E,z,ok,n,l⟩
 ·exact h2 pins s σ H B I ⟨W,p,F,E,z,ok,n,l⟩
theorem aaX {body suite:List Stmt} {J:Stmt} {n:Str} {D:Addr} {i:Nat} {B U:Pos} (c:oZ X.K X.mg x D) (hN:X.N.Nodup) (hi:X.N[i]? = some n) (hn:X.env.scope.names.lookup n=some .local)
  (hb:∀(pins:List (Addr × Obj)) (E:Value->Shared->Prop),gw (X.held pins E) body (kJ C t))
  (hg:Gl X x:=by rfl) (O:(x == ("__debug__":Str))=false:=by decide) (Z:X.stack=X.env::X.outer:=by rfl) (hL:X.env.frame=some X.env.locals:=by rfl) (Y:X.ex=[]:=by rfl) :
  PS X (.Try body [.ExceptHandler (some (.Name x U)) (some n) (J::suite) B] [] [] pos) (kJ C t):=λpins s σ H De I h=>
 La (G:=λ_ _ _=>False) c hN hi hn Z hL Y I (λE' lk=>⟨_,hb pins E',h⟩) (λ_ _ _ z=>z.elim) hg O
end
theorem Yl:∀c,c<128->∃d,d<128/\Unicode.upperOf c=[d]:=by
 have h:(List.range 128).all (λc=>match Unicode.upperOf c with | [d]=>decide (d<128)|_=>false)=true:=by decide
 intro c n
 have:=zP.mp h c (List.mem_range.mpr n)
 split at this
 ·rename_i d e;exact ⟨d,yG this,e⟩
 ·cases this
theorem vD {x:Str} (h:x.cps.all (·<128)=true):(Txt.upper x).cps.all (·<128)=true/\(Txt.upper x).length=x.length:=by
 obtain ⟨⟨l⟩⟩:=x
 have D:∀c∈l,c<128:=λc n=>by
  have:=zP.mp (show l.all (λc=>decide (c<128))=true by simpa using h) c n
  exact yG this
 have e:(Txt.upper ⟨⟨l⟩⟩).cps.toList=(l.map Unicode.upperOf).flatten:=by
  unfold Txt.upper placed
  simp [List.mapIdx_eq_zipIdx_map,Function.comp_def,List.flatten_eq_flatMap,List.flatMap_map]
  rw [<-List.flatMap_map (f:=Prod.fst) (g:=Unicode.upperOf)]
  simp
 have g:∀l:List Nat,(∀c∈l,c<128)->((l.map Unicode.upperOf).flatten.all (λc=>decide (c<128))=true)/\(l.map Unicode.upperOf).flatten.length=l.length:=by
  intro l
  induction l with
  | nil=>intro _;exact ⟨rfl,rfl⟩
  | cons c r ih=>
   intro h
   obtain ⟨d,U,O⟩:=Yl c (h c zt)
   obtain ⟨B,z⟩:=ih λc n=>h c (zn _ n)
   rw [yb,yF,O]
   exact ⟨by simp only [List.cons_append,xC,List.all_cons,B,U,decide_true,Bool.true_and],by simp only [List.cons_append,xC,zG,z]⟩
 obtain ⟨J,I⟩:=g l D
 refine ⟨?_,?_⟩
 ·rw [<-yY,e];exact J
 ·show (Txt.upper ⟨⟨l⟩⟩).cps.size=l.length
  rw [<-yI,e];exact I
section
variable {X:Cx} {C:Pc} {o a1 a2 a3 b1 b2 b3:Expr} {pos apos p1 p2:Pos} {to:TQ}
def Fi (n:TQ):TQ:=λp Q=>n p λe1 p1=>∃z,lk p1 e1=.str z/\z.cps.all (·<128)=true/\z.length<=100000/\Q (.fz (.str (Txt.upper z))) p1
theorem m_upper (ho:PE X o (Up C to)) (B:attributeBase o "upper" X.env (eval o X.env)=eval o X.env:=by rfl) (n:(apos.endLine == pos.line)=true:=by rfl):PE X (.Call (.Attribute o "upper" apos) [] [] pos) (Up C (Fi to)):=by
 have mt:Uq X "str.upper" (λx xs H Q=>∃z,x=.str z/\xs=[]/\z.cps.all (·<128)=true/\z.length<=100000/\Q (.str (Txt.upper z)) H):=λpins s σ H x xs v us Q I Z rv D=>by
  obtain ⟨z,e1,e2,h1,h2,q⟩:=D
  subst e1 e2
  obtain ⟨t,rfl⟩:=Z
  cases rv
  have U:=(vD h1).2
  have nf:Builtin.Str.tooLong (Txt.upper z).cps.size=false:=by
   show decide ((Txt.upper z).cps.size > sizeLine)=false
   rw [zO]
   have:(Txt.upper z).cps.size=z.length:=U
   rw [xn];omega
  refine call_gives PySem.F.slot_str_upper (typeIs_str _ _ _) PySem.F.entry_str_upper (PySem.F.args_str_upper_1 _) (gives_str_upper z t nf) ⟨?_,?_⟩
  ·have:(Txt.upper z).cps.size=z.length:=U
   show (Txt.upper z).cps.size<=sizeLine
   rw [xn];omega
  ·exact ⟨.str _,H,I.kept (t':=s.toks+1) λ_ _ e=>e,⟨_,rfl⟩,q⟩
 exact QE.mk (Kh PySem.F.plainAttrs_str PySem.F.slot_str_upper PySem.F.type_str_upper mt ho B n) λp σ F H R rs ht=>up1 rs ht λe1 p1 v1 F1 H1 J Y sh O D=>by
  obtain ⟨z,h1,h2,h3,q⟩:=D
  rw [bI O h1]
  exact ⟨rfl,z,rfl,rfl,h2,h3,aZ J Y sh (.str _) q⟩
theorem xF {j:Int} {k1 k2} (h:QD i j):PE X (.BinOp (.Constant (.int i) k1 p1) .Pow (.Constant (.int j) k2 p2) pos) (tC (.int (i ^ j.toNat))):=λpins s σ H Q I q=>
 su J8 jj jj pins s σ H Q I ⟨i,j,rfl,rfl,h,q⟩
theorem Ym {k1 k2 k3:Str} {B z n:V} {O J I:D} (h1:PE X a1 (tC (.str k1))) (g1:PE X b1 (tC B)) (h2:PE X a2 (tC (.str k2))) (g2:PE X b2 (tC z)) (h3:PE X a3 (tC (.str k3))) (g3:PE X b3 (tC n))
  (r1:∀F:Hp,Rep C.K F O B) (Z:∀F:Hp,Rep C.K F J z) (Y:∀F:Hp,Rep C.K F I n) (hm:pC [] [(.inr k1,B),(.inr k2,z),(.inr k3,n)]=[(.inr k1,B),(.inr k2,z),(.inr k3,n)]:=by kernel_rfl) :
  PE X (.Dict [some a1,some a2,some a3] [b1,b2,b3] pos) (Up C (qC (.lK [.inr k1,.inr k2,.inr k3] [O,J,I]))):=
 QE.mk (Rg (sJ h1 g1 (sJ h2 g2 (sJ h3 g3 Rf))) rfl rfl (by simp) (by show 3<=15;decide)) λp σ F H R U ht d hd=>by
  refine ⟨aL,[(.inr k1,B),(.inr k2,z),(.inr k3,n)],rfl,by show 3<=15;decide,?_⟩
  rw [Qo,hm]
  exact ⟨.fz (.lK [.inr k1,.inr k2,.inr k3] [O,J,I]),p,upd F d (.dK [(.inr k1,B),(.inr k2,z),(.inr k3,n)]),U.put hd,bY (U.free hd).1 _,jM.refl _,Rep.lK (ks:=[.inr k1,.inr k2,.inr k3]) (vs:=[B,z,n]) aL rfl (.cons (r1 _) (.cons (Z _) (.cons (Y _) .nil))),ht⟩
end
theorem t6 {ti:uP} {B:TQ} {Q:Rt->aO->Prop} {p:aO} {n m:Nat} {a b:Nat->D} {p1:aO} (I:∀Q:Nat->(Nat->D)->aO->Prop,Q n (λi=>.tup [a i,b i]) p1->ti p Q) (U:n<=100000) (f:Nat->D)
  (O:∀i (R:Ev->aO->Prop),i<n->i<m->R (.fz (f i)) (some (.d (a i))::some (.d (b i))::p1)->B (some (.d (a i))::some (.d (b i))::p1) R) (J:∀R:Ev->aO->Prop,m<n->B (some (.d (a m))::some (.d (b m))::p1) R)
  (hd:n<=m->Q (.ro ((List.range n).map f)) p1):lN 2 ti (BL 2 (pM (l_ 0) (pM (l_ 1) BK))) tE B p Q:=by
 refine wM I U (λi ys p2=>i<=m/\ys=(List.range i).map f/\∃o u:Option D,p2=(o.map Sl.d)::(u.map Sl.d)::p1) ⟨yu _,rfl,none,none,rfl⟩ (λi ys p2 h=>by rw [h.2.1,z9,List.length_range];exact zx _) ?_ ?_
 ·rintro i ys p2 hi ⟨Z,rfl,o,u,rfl⟩
  refine ⟨_,rfl,rfl,_,_,rfl,by cases o<;>rfl,_,_,rfl,by cases u<;>rfl,rfl,?_⟩
  show tE (some (.d (a i))::some (.d (b i))::p1) _
  unfold tE
  simp only [if_true]
  by_cases z:i<m
  ·refine O i _ hi z ⟨_,rfl,by omega,?_,some (a i),some (b i),rfl⟩
   rw [List.range_succ,yf];rfl
  ·have e:i=m:=by omega
   subst e
   exact J _ hi
 ·rintro ys p2 ⟨Y,rfl,o,u,rfl⟩
  exact hd Y
theorem mF:∀{ts:List Str} {n:List Value},Vals (ts.map V.str) n->StrsAre n ts
 | [],_,.nil=>.nil
 | _::_,_,.cons r t=>by
  obtain ⟨k,rfl⟩:=r
  exact .cons _ _ (mF t)
section
variable {X:Cx} {C:Pc} {a b:Expr} {ta tb:TQ} {pos:Pos}
def Sx (f:Bool->Bool) (g:List D->D) (z n:TQ):m8:=λp Q=>z p λe1 p1=>n p1 λe2 p2=>∃(x:Str) (ts:List Str),lk p2 e1=.str x/\lk p2 e2=g (ts.map D.str)/\Q (f (ts.any (· == x))) p2
theorem aaY (ha:PE X a (Up C ta)) (hb:PE X b (Up C tb)) (hm:behindInMarks .In b=false:=by rfl):PT X (.Compare a [.In] [b] pos) (gf C (Sx (λk=>k) D.lst ta tb)):=by
 have ho:g8 X (compareOp .In) (λu v H Q=>∃(x:Str) (l:Addr) (ts:List Str),u=.str x/\v=.ref l/\H l=some (.lst (ts.map V.str))/\Q (.bl (ts.any (· == x))) H):=λpins s σ H u v v1 v2 Q I r1 Z z=>by
  obtain ⟨x,l,ts,e1,e2,h,q⟩:=z
  subst e1 e2
  obtain ⟨t1,rfl⟩:=r1
  obtain rfl:=Z
  obtain ⟨its,U,hl,_⟩:=I.list (iV.of h)
  exact PyProof.Rows.KTD.in_words (h₀:=s.heap) ⟨_,hl.isList,mF U⟩ (λ_ _ e=>e) (by rw [<-PyProof.Rows.KTD.any_words];exact ⟨.bl _,H,I,rfl,q⟩)
 exact QT.mk (gD ho ha hb hm) λp σ F H R Y ht=>sV Y ht λe1 e2 p1 v1 v2 F1 H1 n O sh J B z=>by
  obtain ⟨x,ts,h1,h2,q⟩:=z
  obtain ⟨l,vs,rfl,g,r⟩:=iD n B h2
  rw [r.strs] at g
  exact ⟨x,l,ts,bI J h1,rfl,g,_,rfl,p1,F1,n,O,sh,q⟩
theorem Oa (ha:PE X a (Up C ta)) (hb:PE X b (Up C tb)) (hm:behindInMarks .NotIn b=false:=by rfl):PT X (.Compare a [.NotIn] [b] pos) (gf C (Sx (λk=>!k) D.tup ta tb)):=by
 have ho:g8 X (compareOp .NotIn) (λu v H Q=>∃(x:Str) (l:Addr) (ts:List Str),u=.str x/\v=.ref l/\H l=some (.tup (ts.map V.str))/\Q (.bl (!ts.any (· == x))) H):=λpins s σ H u v v1 v2 Q I r1 Z z=>by
  obtain ⟨x,l,ts,e1,e2,h,q⟩:=z
  subst e1 e2
  obtain ⟨t1,rfl⟩:=r1
  obtain rfl:=Z
  obtain ⟨its,U,hl,_⟩:=I.tuple (Dm.of h)
  exact notin_tuple_strs hl (mF U) ⟨.bl _,H,I,rfl,q⟩
 exact QT.mk (gD ho ha hb hm) λp σ F H R Y ht=>sV Y ht λe1 e2 p1 v1 v2 F1 H1 n O sh J B z=>by
  obtain ⟨x,ts,h1,h2,q⟩:=z
  obtain ⟨l,vs,rfl,g,r⟩:=wA n B h2
  rw [r.strs] at g
  exact ⟨x,l,ts,bI J h1,rfl,g,_,rfl,p1,F1,n,O,sh,q⟩
end
section
variable {X:Cx} {C:Pc} {e o:Expr} {pos apos:Pos} {F0:Hp} {es:List Expr} {cI:TAQ} {XE:Addr->aO->Prop}
theorem Ob {z: Addr} {m : Str} {k : Nat} (Y : X.K = C.K) (I : PE X o (Up (C.at F0) to)) (c : vW X.K Kl) (J : Meth X.K Kl m z) (G : bV X.prog X.w X.K X.mg X.base m7 k z fd ps (Zh X.K S)) (D : bO k X.A) (O : Binds X.K fd ps []) (U : PA X (e :: es) (gJ (C.at F0) cI))
    (n : starEach (e :: es) X.env = (false, eval e X.env) :: starEach es X.env := by rfl) (hpl : (backTo pos (starEach es X.env)).any (·.1) = false := by rfl)
    (B : eval (.Call (.Attribute o m apos) (e :: es) [] pos) X.env = (do
      let ov ← eval o X.env
      standAt apos.atName
      let (f, first) ← holding [ov] (getMethod ov m pl)
      callWith pos f first (backTo pos (starEach (e :: es) X.env)) (backToKw pos (keywordEach [] X.env))) := by rfl) :
    PE X (.Call (.Attribute o m apos) (e :: es) [] pos) (m9 (C.at F0) (tZ C S Kl m to cI)) := rK (C := C.at F0) Y I c J G D O U n hpl B
theorem Oc {z: Addr} {m : Str} {k : Nat} (Y : X.K = C.K) (I : PE X o (Up (C.at F0) to)) (c : vW X.K Kl) (J : Meth X.K Kl m z) (G : bV X.prog X.w X.K X.mg X.base (oY X.prog X.w) k z fd ps (RW X.K S)) (D : bO k X.A) (O : Binds X.K fd ps [])
    (lk : pD X (GX (C.at F0) XE)) (U : PA X (e :: es) (gJ (C.at F0) cI))
    (n : starEach (e :: es) X.env = (false, eval e X.env) :: starEach es X.env := by rfl) (hpl : (backTo pos (starEach es X.env)).any (·.1) = false := by rfl)
    (B : eval (.Call (.Attribute o m apos) (e :: es) [] pos) X.env = (do
      let ov ← eval o X.env
      standAt apos.atName
      let (f, first) ← holding [ov] (getMethod ov m pl)
      callWith pos f first (backTo pos (starEach (e :: es) X.env)) (backToKw pos (keywordEach [] X.env))) := by rfl) :
    PE X (.Call (.Attribute o m apos) (e :: es) [] pos) (m9 (C.at F0) (wY C S Kl m XE to cI)) := Su (C := C.at F0) Y I c J G D O lk U n hpl B
end
theorem hE {α:Sort _} {P:α->Prop} {a:α} (h:P a):∃x,P x:=⟨a,h⟩
theorem hA {α:Sort _} {a b:α} {P:Prop} (e:a=b) (h:P):a=b/\P:=⟨e,h⟩
theorem hN {P:Prop} (h:P):([]:List Nat).Nodup/\P:=⟨x6,h⟩
theorem hT {P:Prop} (h:P):True/\P:=⟨trivial,h⟩
theorem hL {n:Nat} {P:Prop} (e:Nat.ble n 100000=true) (h:P):n<=100000/\P:=⟨Nat.le_of_ble_eq_true e,h⟩
theorem hC1 {A B:Prop} (e:c=true) (h:A):if c=true then A else B:=by rw [zo e];exact h
theorem hC0 {A B:Prop} (e:c=false) (h:B):if c=true then A else B:=by rw [zh (by rw [e];decide)];exact h
end L2
namespace L2
theorem hG (h:uM t u E p):uM t u E p:=h
theorem hV (h:wW t u E W p):wW t u E W p:=h
theorem pU {c:Prop} {_:Decidable c} {A B:Prop} (h1:c->A) (h0:¬c->B):if decide c=true then A else B:=by
 by_cases h:c
 ·rw [zZ h];exact h1 h
 ·rw [zO h];exact h0 h
theorem aaZ {A B:Prop} (h1:c=true->A) (h0:c=false->B):if c=true then A else B:=by
 cases c
 ·exact h0 rfl
 ·exact h1 rfl
theorem hQ {P:Prop} (e:jA a b) (h:P):jA a b/\P:=⟨e,h⟩
theorem Yn {A B:Prop} (h1:i=j->A) (h0:¬i=j->B):if Bv (.int i) (.int j)=true then A else B:=by
 by_cases h:i=j
 ·subst h;rw [show Bv (.int i) (.int i)=true by simp [Bv]];exact h1 rfl
 ·rw [show Bv (.int i) (.int j)=false by simp [Bv,h]];exact h0 h
theorem Sy {i j:PySem.Str} {A B:Prop} (h1:i=j->A) (h0:¬i=j->B):if Bv (.str i) (.str j)=true then A else B:=by
 by_cases h:i=j
 ·subst h;rw [show Bv (.str i) (.str i)=true by simp [Bv]];exact h1 rfl
 ·rw [show Bv (.str i) (.str j)=false by simp [Bv,h]];exact h0 h
theorem hD {i j:Int} {P:Prop} (e:decide (0<j/\j<18446744073709551616)=true) (h:P):Gs i j/\P:=⟨⟨(yG e).1,.inl (yG e).2⟩,h⟩
theorem nbv (e:p[i]? = some (Option.map Sl.d v)):lM p i=true:=by
 unfold lM;rw [e];cases v<;>rfl
theorem hX {α β:Sort _} {b:β} {g:α->β} {a:α} {P:Prop} (e:b=g a) (h:P):(∃z,b=g z)/\P:=⟨⟨a,e⟩,h⟩
end L2
namespace L2
open PySem PySem.Spec PyProof.Rows
section
variable {X:Cx} {C:Pc} {e f g:Expr} {ta tb tc:TQ} {pos:Pos} {j:Nat}
theorem qi:PE X (.Constant (.int i) j pos) (Up C (qC (.int i))):=dY jj (λ_=>.int _)
theorem qs:PE X (.Constant (.str x) j pos) (Up C (qC (.str x))):=dY dm (λ_=>.str _)
theorem qv (i:Nat) (hN:X.N[i]? = some x:=by rfl) (z:Vq X.env.scope x:=by first|exact Or.inl rfl|exact Or.inr (Or.inl rfl)|exact Or.inr (Or.inr rfl)) (hd:(x == ("__debug__":Str))=false:=by decide) (n:(x == ("__classdict__":Str))=false:=by decide):PE X (.Name x pos) (Up C (qN i)):=qw (pv i hN z hd n)
theorem qx (z:X.K=C.K) (n:PE X e (Up C ta)):PE X (.Subscript e (.Constant (.int i) j p) pos) (Up C (qIx ta (qC (.int i)))):=By z n qi (λ_ _=>rfl)
theorem lc (h:Loc sc x:=by first|exact Or.inl rfl|exact Or.inr rfl):Loc sc x:=h
theorem bO.m {k n:Nat} {A:Around} (h:bO k A) (e:n<=k:=by first|decide|omega):bO n A:=h.mono e
theorem sr (h:PE X e (Up C ta)):gw X [.Return (some e) pos] (iU C (RG (Rx ta))):=aH (bU (qz h))
theorem a1 (h:PE X e (Up C ta)) (n:starEach [e] X.env=(false,eval e X.env)::starEach [] X.env:=by rfl):PA X [e] (gJ C (cC ta lB)):=aF h e_ n
theorem a2 (h:PE X e (Up C ta)) (h2:PE X f (Up C tb)) (z:starEach [e,f] X.env=(false,eval e X.env)::starEach [f] X.env:=by rfl) (n:starEach [f] X.env=(false,eval f X.env)::starEach [] X.env:=by rfl):PA X [e,f] (gJ C (cC ta (cC tb lB))):=aF h (a1 h2 n) z
theorem a3 (h:PE X e (Up C ta)) (h2:PE X f (Up C tb)) (h3:PE X g (Up C tc)) (B:starEach [e,f,g] X.env=(false,eval e X.env)::starEach [f,g] X.env:=by rfl) (z:starEach [f,g] X.env=(false,eval f X.env)::starEach [g] X.env:=by rfl) (n:starEach [g] X.env=(false,eval g X.env)::starEach [] X.env:=by rfl):PA X [e,f,g] (gJ C (cC ta (cC tb (cC tc lB)))):=aF h (a2 h2 h3 z n) B
theorem aS {x:Str} {es:List Expr} {n:TAQ} (B:PA X es (gJ C n)) (z:starEach (.Constant (.str x) j pos::es) X.env=(false,eval (.Constant (.str x) j pos) X.env)::starEach es X.env):PA X (.Constant (.str x) j pos::es) (gJ C (cC (qC (.str x)) n)):=aF qs B z
end
end L2
namespace M
def val (b:Int) (ds:List Int):Int:=ds.foldl (λn d=>n * b+d) 0
theorem kW (b:Int):∀(ds:List Int) (a:Int),ds.foldl (λn d=>n * b+d) a=a * b ^ ds.length+val b ds
 | [],a=>by simp [val]
 | d::r,a=>by
  have h1:=kW b r (a * b+d)
  have h2:=kW b r (0 * b+d)
  show r.foldl _ (a * b+d)=a * b ^ (r.length+1)+r.foldl _ (0 * b+d)
  rw [h1,h2,zI]
  generalize b ^ r.length=p
  generalize val b r=v
  rw [Int.add_mul,Int.add_mul,xA a b p,yt b p]
  omega
theorem fD (b d:Int) (r:List Int):val b (d::r)=d * b ^ r.length+val b r:=by
 show r.foldl _ (0 * b+d)=_
 rw [kW]
 simp
theorem jf (b d:Int) (xs:List Int):val b (xs++[d])=val b xs * b+d:=by
 unfold val
 rw [List.foldl_append]
 rfl
def terms (b:Int):List Int->List Int
 | []=>[]
 | d::r=>d * b ^ r.length::terms b r
def le (b:Int):List Int->Int
 | []=>0
 | d::r=>d+b * le b r
theorem val_rev (b:Int):∀n:List Int,val b n.reverse=le b n
 | []=>rfl
 | d::r=>by
  rw [yi,jf,val_rev b r]
  show le b r * b+d=d+b * le b r
  rw [yt];omega
theorem xG (b x:Int):∀n:List Int,le b (n++[x])=le b n+x * b ^ n.length
 | []=>by simp [le]
 | d::r=>by
  show d+b * le b (r++[x])=d+b * le b r+x * b ^ (r.length+1)
  rw [xG b x r,zI,Int.mul_add]
  generalize b ^ r.length=p
  have:b * (x * p)=x * (p * b):=by rw [yt p b,<-xA,<-xA,yt b x]
  omega
theorem au {b:Int} (h:0<b) (n:Nat):0<b ^ n:=Int.pow_pos h
theorem jo {b:Int} (h:2<=b):∀n:Nat,(2:Int) ^ n<=b ^ n
 | 0=>by simp
 | n+1=>by
  rw [zI,zI]
  have q:=jo h n
  have p:=au (show (0:Int)<2 by decide) n
  exact yC q h (by decide) (by omega)
theorem vG {m n:Nat} (h:m<=n):(2:Int) ^ m<=2 ^ n:=by
 obtain ⟨k,rfl⟩:=Nat.exists_eq_add_of_le h
 rw [xt]
 have p:=au (show (0:Int)<2 by decide) m
 have q:=au (show (0:Int)<2 by decide) k
 have:(2:Int) ^ m * 1<=2 ^ m * 2 ^ k:=yc (by omega) (by omega)
 omega
structure gq (b n:Int) (ds:List Int):Prop where
 nq:∀d∈ds,0<=d/\d<b
 val:val b ds=n
 ne:ds≠[]
 hd:ds.length=1\/ds.head?≠some 0
theorem Od {b:Int} (h:0<=b):∀{rs:List Int},(∀d∈rs,0<=d/\d<b)->0<=le b rs
 | [],_=>yS _
 | d::r,hr=>by
  have h1:=(hr d zt).1
  have h2:=Od h (rs:=r) λx n=>hr x (zn _ n)
  have:=Int.mul_nonneg h h2
  show 0<=d+b * le b r
  omega
structure Oe (b n:Int) (rs:List Int) (left:Int):Prop where
 b2:2<=b
 nq:∀d∈rs,0<=d/\d<b
 l0:0<=left
 sum:n=le b rs+left * b ^ rs.length
 pos:rs=[]\/0<left
theorem Oe.start {b n:Int} (B:2<=b) (z:0<=n):Oe b n [] n:=⟨B,λd hd=>absurd hd yQ,z,by simp [le],.inl rfl⟩
theorem Oe.turn {b n z:Int} {rs:List Int} (g:Oe b n rs z) (h:b<=z):Oe b n (rs++[z % b]) (z / b) where
 b2:=g.b2
 nq:=λd hd=>by
  have B:=g.b2
  rcases zK.mp hd with hd|hd
  ·exact g.nq d hd
  ·rw [zr] at hd
   subst hd
   exact ⟨yT _ (by omega),yz _ (by omega)⟩
 l0:=Int.ediv_nonneg g.l0 (by have:=g.b2;omega)
 sum:=by
  have h1:=g.sum
  have h2:=Int.mul_ediv_add_emod z b
  rw [xG,zj,yx,zI,h1]
  generalize b ^ rs.length=p at *
  have e:z * p=(z % b) * p+(z / b) * (p * b):=by
   have:z * p=(b * (z / b)+z % b) * p:=by rw [h2]
   rw [this,Int.add_mul,yt p b,<-xA,yt (z / b) b]
   omega
  omega
 pos:=.inr (by
  have B:=g.b2
  have:=yZ (show 0<b by omega) h
  rw [Int.ediv_self (by omega)] at this
  omega)
theorem Oe.len {b n B:Int} {rs:List Int} (g:Oe b n rs B) (I:n<2 ^ 4000):rs.length<4000:=by
 rcases g.pos with z|z
 ·rw [z];decide
 have h1:=g.sum
 have D:=g.b2
 have h2:=Od (by omega) g.nq
 have p:=au (show 0<b by omega) rs.length
 have h3:1 * b ^ rs.length<=B * b ^ rs.length:=zy (by omega) (by omega)
 have h4:=jo D rs.length
 by_cases z:rs.length<4000
 ·exact z
 ·have:=vG (show 4000<=rs.length by omega)
  generalize (2:Int) ^ 4000=q at *
  omega
theorem Oe.done {b n B:Int} {rs:List Int} (g:Oe b n rs B) (h:B<b):gq b n (rs++[B]).reverse where
 nq:=λd hd=>by
  rcases zK.mp (x8.mp hd) with hd|hd
  ·exact g.nq d hd
  ·rw [zr] at hd;subst hd;exact ⟨g.l0,h⟩
 val:=by rw [val_rev,xG];exact g.sum.symm
 ne:=by simp
 hd:=by
  rcases g.pos with z|z
  ·exact .inl (by rw [z];rfl)
  ·refine .inr ?_
   rw [yK]
   simp
   omega
theorem val_mod {b:Int} {xs:List Int} {d:Int} (h:0<=d/\d<b):val b (xs++[d]) % b=d/\val b (xs++[d]) / b=val b xs:=by
 rw [jf]
 have n:0<b:=by omega
 constructor
 ·rw [xx,Int.add_mul_emod_self_right,Int.emod_eq_of_lt h.1 h.2]
 ·rw [xx,Int.add_mul_ediv_right _ _ (by omega),Int.ediv_eq_zero_of_lt h.1 h.2,Int.zero_add]
theorem jV {b:Int} (n:0<=b) {xs:List Int} (h:∀d∈xs,0<=d/\d<b):0<=val b xs:=by
 have:=Od n (rs:=xs.reverse) λd hd=>h d (x8.mp hd)
 rw [<-val_rev,List.reverse_reverse] at this
 exact this
theorem gq.uniq {b:Int} (hb:2<=b):∀(k:Nat) {n:Int} {xs ys:List Int},xs.length=k->gq b n xs->gq b n ys->xs=ys:=by
 intro k
 induction k with
 | zero=>intro n xs ys hk B _;exact absurd (yO.mp hk) B.ne
 | succ k ih=>
  intro n xs ys hk B D
  have ex:=yD B.ne
  have ey:=yD D.ne
  generalize xs.dropLast=us at ex
  generalize ys.dropLast=vs at ey
  generalize xs.getLast B.ne=p at ex
  generalize ys.getLast D.ne=q at ey
  subst ex ey
  have hp:=B.nq p (by simp)
  have hq:=D.nq q (by simp)
  have Y:=val_mod (xs:=us) hp
  have U:=val_mod (xs:=vs) hq
  have e1:=B.val
  have e2:=D.val
  rw [e1] at Y
  rw [e2] at U
  have epq:p=q:=Y.1.symm.trans U.1
  have ev:M.val b us=M.val b vs:=Y.2.symm.trans U.2
  subst epq
  have O:∀(ws:List Int),(ws++[p]).length=1\/(ws++[p]).head?≠some 0->(∀d∈ws,0<=d/\d<b)->ws≠[]->0<M.val b ws:=by
   intro ws h hr Z
   match ws,Z with
   | w::r,_=>
    have h0:w≠0:=by
     rcases h with z|z
     ·simp at z
     ·simpa using z
    have hw':=hr w zt
    rw [fD]
    have p1:=au (show 0<b by omega) r.length
    have p2:=jV (show 0<=b by omega) (xs:=r) λd hd=>hr d (zn _ hd)
    have p3:1 * b ^ r.length<=w * b ^ r.length:=zy (by omega) (by omega)
    omega
  have ru:∀d∈us,0<=d/\d<b:=λd hd=>B.nq d (yE _ hd)
  have rv:∀d∈vs,0<=d/\d<b:=λd hd=>D.nq d (yE _ hd)
  by_cases J:us=[]
  ·by_cases I:vs=[]
   ·rw [J,I]
   ·have:=O vs D.hd rv I
    rw [J] at ev
    have z:M.val b []=0:=rfl
    omega
  ·by_cases I:vs=[]
   ·have:=O us B.hd ru J
    rw [I] at ev
    have z:M.val b []=0:=rfl
    omega
   ·have lu:us.length=k:=by rw [zj,yx] at hk;omega
    have hd':∀(ws:List Int),ws≠[]->((ws++[p]).length=1\/(ws++[p]).head?≠some 0)->ws.length=1\/ws.head?≠some 0:=by
     intro ws Z h
     match ws,Z with
     | w::r,_=>
      refine .inr ?_
      rcases h with z|z
      ·simp at z
      ·simpa using z
    rw [ih lu ⟨ru,rfl,J,hd' us J B.hd⟩ ⟨rv,ev.symm,I,hd' vs I D.hd⟩]
theorem gq.pos {b n:Int} {ds:List Int} (d:gq b n ds) (B:0<n):ds.head?≠some 0:=by
 rcases d.hd with z|z
 ·match ds,z,d with
  | [x],_,d=>
   have h:(0:Int) * b+x=n:=d.val
   intro e
   have:x=0:=by simpa using e
   omega
 ·exact z
def U3 (b n:Nat):List Int:=if h:n<b\/b<2 then [(n:Int)] else U3 b (n / b)++[((n % b:Nat):Int)]
termination_by n
decreasing_by exact Nat.div_lt_self (by omega) (by omega)
def fg (b n:Int):List Int:=U3 b.toNat n.toNat
theorem Og (b:Nat) (J:2<=b):∀n:Nat,gq (b:Int) (n:Int) (U3 b n):=by
 intro n
 induction n using Nat.strongRecOn with
 | ind n ih=>
  unfold U3
  by_cases h:n<b\/b<2
  ·rw [dif_pos h]
   refine ⟨λd hd=>?_,?_,by simp,.inl rfl⟩
   ·rw [zr] at hd;subst hd;omega
   ·show (0:Int) * b+n=n;omega
  ·rw [dif_neg h]
   have B:n / b<n:=Nat.div_lt_self (by omega) (by omega)
   have d:=ih (n / b) B
   have D:0<n / b:=Nat.div_pos (by omega) (by omega)
   refine ⟨λx z=>?_,?_,by simp,.inr ?_⟩
   ·rcases zK.mp z with z|z
    ·exact d.nq x z
    ·rw [zr] at z;subst z
     have:=Nat.mod_lt n (show 0<b by omega)
     omega
   ·rw [jf,d.val]
    have:=Nat.div_add_mod n b
    have e:((n / b:Nat):Int) * (b:Int)+((n % b:Nat):Int)=((n / b * b+n % b:Nat):Int):=by push_cast;rfl
    rw [e]
    congr 1
    rw [Nat.mul_comm];exact this
   ·have h1:=d.pos (by omega)
    match I:U3 b (n / b),d.ne,h1 with
    | x::r,_,h1=>simpa using h1
theorem fG {b n:Int} (B:2<=b) (z:0<=n):gq b n (fg b n):=by
 have h:=Og b.toNat (by omega) n.toNat
 have e1:((b.toNat:Nat):Int)=b:=by omega
 have e2:((n.toNat:Nat):Int)=n:=by omega
 rw [e1,e2] at h
 exact h
theorem gq.fg {b n:Int} {ds:List Int} (z:2<=b) (B:0<=n) (d:gq b n ds):ds=fg b n:=gq.uniq z _ rfl d (fG z B)
theorem gq.nn {b n:Int} {ds:List Int} (z:2<=b) (d:gq b n ds):0<=n:=by
 have:=jV (show 0<=b by omega) d.nq
 rw [d.val] at this;exact this
theorem xH {b:Int} (z:1<=b):∀{ds:List Int},(∀d∈ds,0<=d/\d<b)->val b ds<b ^ ds.length
 | [],_=>by show (0:Int)<b ^ 0;simp
 | d::r,h=>by
  have h1:=h d zt
  have B:=xH z (ds:=r) λx n=>h x (zn _ n)
  rw [fD,zG,zI]
  have p:=au (show 0<b by omega) r.length
  have:(d+1) * b ^ r.length<=b * b ^ r.length:=zy (by omega) (by omega)
  rw [Int.add_mul,xm,yt b] at this
  omega
theorem gq.lt {b n:Int} {ds:List Int} (z:2<=b) (d:gq b n ds):n<b ^ ds.length:=by rw [<-d.val];exact xH (by omega) d.nq
theorem gq.ge {b n:Int} {ds:List Int} (O:2<=b) (d:gq b n ds) (B:0<n):b ^ (ds.length - 1)<=n:=by
 have h:=d.pos B
 have v:=d.val
 match ds,d.ne,h,d.nq,v with
 | x::r,_,h,nq,v=>
  have I:=nq x zt
  have D:x≠0:=by simpa using h
  have J:=jV (show 0<=b by omega) (xs:=r) λy z=>nq y (zn _ z)
  rw [fD] at v
  show b ^ (r.length+1 - 1)<=n
  rw [ye]
  have p:=au (show 0<b by omega) r.length
  have:1 * b ^ r.length<=x * b ^ r.length:=zy (by omega) (by omega)
  omega
def uQ:Int:=2 ^ 4000
theorem nZ:uQ=2 ^ 4000:=rfl
theorem Oh {b n:Int} (B:2<=b) (D:0<=n) (h:n<uQ):(fg b n).length<=4001:=by
 have d:=fG B D
 rw [nZ] at h
 by_cases z:0<n
 ·have g:=d.ge B z
  by_cases q:(fg b n).length<=4001
  ·exact q
  ·have h1:=jo B ((fg b n).length - 1)
   have h2:=vG (show 4000<=(fg b n).length - 1 by omega)
   generalize (2:Int) ^ 4000=w at *
   omega
 ·have e:n=0:=by omega
  subst e
  have:fg b 0=[0]:=by
   unfold fg U3
   rw [dif_pos (by left;show (0:Int).toNat<b.toNat;omega)]
   rfl
  rw [this];decide
theorem Yo {b n:Int} (B:2<=b) (z:0<=n):0<(fg b n).length:=List.length_pos_iff.mpr (fG B z).ne
def dh (b n:Int):Bool:=decide (fg b n=(fg b n).reverse)
theorem rM {b:Int} (n:2<=b):fg b 0=[0]:=by
 unfold fg U3
 rw [dif_pos (by left;show (0:Int).toNat<b.toNat;omega)]
 rfl
theorem t_ {b n:Int} (z:0<=n) (h:n<b):fg b n=[n]:=by
 unfold fg U3
 rw [dif_pos (by left;omega)]
 congr 1;omega
theorem pW {b n:Int} (z:0<=n) (h:n<b):dh b n=true:=by
 unfold dh
 rw [t_ z h];exact zZ rfl
theorem Fj {n:Int} (h:n<=10 ^ 40):n<uQ:=by
 rw [nZ]
 have:(10:Int) ^ 40<2 ^ 4000:=by decide
 omega
theorem xJ (b:Int) (xs ys:List Int):val b (xs++ys)=val b xs * b ^ ys.length+val b ys:=by
 show (xs++ys).foldl _ 0=_
 rw [List.foldl_append]
 exact kW b ys _
theorem uc (b:Int):b ^ 1=b:=by rw [zI,xy,xm]
def ln (b n:Int):Nat:=(fg b n).length
theorem bF {b:Int} (z:1<=b) {m n:Nat} (h:m<=n):b ^ m<=b ^ n:=by
 obtain ⟨k,rfl⟩:=Nat.exists_eq_add_of_le h
 rw [xt]
 have p:=au (show 0<b by omega) m
 have q:=au (show 0<b by omega) k
 have:b ^ m * 1<=b ^ m * b ^ k:=yc (by omega) (by omega)
 omega
theorem Yp {b:Int} (z:2<=b) {m n:Nat} (h:m<n):b ^ m<b ^ n:=by
 have h1:=bF (b:=b) (by omega) (show m+1<=n by omega)
 rw [zI] at h1
 have p:=au (show 0<b by omega) m
 have:b ^ m * 2<=b ^ m * b:=yc z (by omega)
 omega
theorem gC {b n:Int} (z:2<=b) (B:1<=n):b ^ (ln b n - 1)<=n:=(fG z (by omega)).ge z (by omega)
theorem iw {b n:Int} (z:2<=b) (B:0<=n):n<b ^ (ln b n):=(fG z B).lt z
theorem eE {b n:Int} (B:2<=b) (z:0<=n):1<=ln b n:=Yo B z
theorem Oi {b n:Int} (z:2<=b) {L:Nat} (hL:1<=L) (h1:b ^ (L - 1)<=n) (h2:n<b ^ L):ln b n=L:=by
 have p:=au (show 0<b by omega) (L - 1)
 have I:=gC z (show 1<=n by omega)
 have D:=iw z (show 0<=n by omega)
 have B:=eE z (show 0<=n by omega)
 by_cases h:ln b n<L
 ·have:=bF (b:=b) (by omega) (show ln b n<=L - 1 by omega)
  omega
 ·by_cases h':L<ln b n
  ·have:=bF (b:=b) (by omega) (show L<=ln b n - 1 by omega)
   omega
  ·omega
theorem kY {b m n:Int} (z:2<=b) (D:0<=m) (h:m<=n):ln b m<=ln b n:=by
 by_cases B:m=0
 ·subst B
  have:ln b 0=1:=by unfold ln;rw [rM z];rfl
  have:=eE z (show 0<=n by omega)
  omega
 have J:=gC z (show 1<=m by omega)
 have I:=iw z (show 0<=n by omega)
 by_cases q:ln b m<=ln b n
 ·exact q
 ·have:=bF (b:=b) (by omega) (show ln b n<=ln b m - 1 by omega)
  omega
def hf (L:Nat):Nat:=(L+1) / 2
theorem pX {b n:Int} {ds:List Int} (O:2<=b) (d:gq b n ds) (j:Nat) (J:j<=ds.length):n / b ^ j=val b (ds.take (ds.length - j))/\n=val b (ds.take (ds.length - j)) * b ^ j+val b (ds.drop (ds.length - j)):=by
 have e:ds=ds.take (ds.length - j)++ds.drop (ds.length - j):=(List.take_append_drop _ _).symm
 have z:=d.val
 rw [e,xJ] at z
 have B:(ds.drop (ds.length - j)).length=j:=by rw [yA];omega
 rw [B] at z
 have r:∀x∈ds.drop (ds.length - j),0<=x/\x<b:=λx I=>d.nq x (List.mem_of_mem_drop I)
 have D:=jV (show 0<=b by omega) r
 have v1:=xH (show 1<=b by omega) r
 rw [B] at v1
 have p:=au (show 0<b by omega) j
 refine ⟨?_,z.symm⟩
 rw [<-z,xx,Int.add_mul_ediv_right _ _ (by omega),Int.ediv_eq_zero_of_lt D v1,Int.zero_add]
theorem vH {b n:Int} {ds:List Int} (I:2<=b) (d:gq b n ds) (D:1<=n) {m:Nat} (h1:1<=m) (h2:m<=ds.length):gq b (val b (ds.take m)) (ds.take m):=by
 have h:=d.pos (by omega)
 refine ⟨λx B=>d.nq x (xk B),rfl,?_,.inr ?_⟩
 ·intro z
  have:=yd List.length z
  rw [yq,xB] at this
  omega
 ·match ds,m,h1,h2,h with
  | x::r,m+1,_,_,h=>simpa using h
def gk (b f:Int) (L:Nat):Int:=val b (fg b f++((fg b f).take (L / 2)).reverse)
theorem SJ {α:Type} {xs:List α} {L:Nat} (n:xs.length=hf L):(xs++(xs.take (L / 2)).reverse).reverse=xs++(xs.take (L / 2)).reverse:=by
 unfold hf at n
 rw [yK,List.reverse_reverse]
 by_cases D:L % 2=0
 ·have e:L / 2=xs.length:=by omega
  rw [e,List.take_length]
 ·have e:L / 2=xs.length - 1:=by omega
  rw [e]
  have B:xs≠[]:=by intro z;rw [z] at n;simp at n;omega
  obtain ⟨ys,y,rfl⟩:∃ys y,xs=ys++[y]:=⟨xs.dropLast,xs.getLast B,(yD B).symm⟩
  have e2:(ys++[y]).length - 1=ys.length:=by simp
  rw [e2,List.take_left' rfl,yK]
  simp
structure Fr (b f:Int) (L:Nat):Prop where
 b2:2<=b
 L1:1<=L
 lo:b ^ (hf L - 1)<=f
 hi:f<b ^ hf L
theorem ud {L:Nat} (h:1<=L):1<=hf L:=by unfold hf;omega
theorem Fr.pos {b f:Int} {L:Nat} (h:Fr b f L):1<=f:=by have:=au (show 0<b by have:=h.b2;omega) (hf L - 1);have:=h.lo;omega
theorem Fr.len {b f:Int} {L:Nat} (h:Fr b f L):(fg b f).length=hf L:=Oi h.b2 (ud h.L1) h.lo h.hi
theorem Fr.aa0 {b f:Int} {L:Nat} (h:Fr b f L):gq b (gk b f L) (fg b f++((fg b f).take (L / 2)).reverse):=by
 have d:=fG h.b2 (show 0<=f by have:=h.pos;omega)
 have p:=d.pos (by have:=h.pos;omega)
 refine ⟨λx n=>?_,rfl,?_,.inr ?_⟩
 ·rcases zK.mp n with n|n
  ·exact d.nq x n
  ·exact d.nq x (xk (x8.mp n))
 ·intro z;exact d.ne (List.append_eq_nil_iff.mp z).1
 ·match fg b f,d.ne,p with
  | x::r,_,p=>simpa using p
theorem Fr.xK {b f:Int} {L:Nat} (h:Fr b f L):0<=gk b f L:=h.aa0.nn h.b2
theorem Fr.fgp {b f:Int} {L:Nat} (h:Fr b f L):fg b (gk b f L)=fg b f++((fg b f).take (L / 2)).reverse:=(h.aa0.fg h.b2 h.xK).symm
theorem Fr.dh {b f:Int} {L:Nat} (h:Fr b f L):dh b (gk b f L)=true:=by
 unfold M.dh
 rw [h.fgp]
 exact zZ (SJ h.len).symm
theorem Fr.ln {b f:Int} {L:Nat} (h:Fr b f L):ln b (gk b f L)=L:=by
 unfold M.ln
 have l:=h.len
 have:=h.L1
 rw [h.fgp,zj,yX,yq,l]
 unfold hf;omega
theorem Fr.split {b f:Int} {L:Nat} (h:Fr b f L):f * b ^ (L / 2)<=gk b f L/\gk b f L<(f+1) * b ^ (L / 2):=by
 have d:=fG h.b2 (show 0<=f by have:=h.pos;omega)
 have D:=h.b2
 have e:gk b f L=val b (fg b f) * b ^ (((fg b f).take (L / 2)).reverse).length+val b (((fg b f).take (L / 2)).reverse):=xJ _ _ _
 have n:(((fg b f).take (L / 2)).reverse).length=L / 2:=by rw [yX,yq,h.len];unfold hf;omega
 rw [n,d.val] at e
 have r:∀x∈((fg b f).take (L / 2)).reverse,0<=x/\x<b:=λx z=>d.nq x (xk (x8.mp z))
 have B:=jV (show 0<=b by omega) r
 have v1:=xH (show 1<=b by omega) r
 rw [n] at v1
 rw [Int.add_mul,xm]
 omega
theorem Fr.front {b f:Int} {L:Nat} (h:Fr b f L):gk b f L / b ^ (L / 2)=f:=by
 obtain ⟨h1,h2⟩:=h.split
 have p:=au (show 0<b by have:=h.b2;omega) (L / 2)
 have z:f<=gk b f L / b ^ (L / 2):=Int.le_ediv_of_mul_le p h1
 have n:gk b f L / b ^ (L / 2)<f+1:=Int.ediv_lt_of_lt_mul p h2
 omega
theorem Fr.mono {b f n:Int} {L:Nat} (h:Fr b f L) (h':Fr b n L) (z:f<n):gk b f L<gk b n L:=by
 have h1:=h.split.2
 have h2:=h'.split.1
 have p:=au (show 0<b by have:=h.b2;omega) (L / 2)
 have:(f+1) * b ^ (L / 2)<=n * b ^ (L / 2):=zy (by omega) (by omega)
 omega
theorem bM {b n:Int} (B:2<=b) (U:1<=n):Fr b (n / b ^ (ln b n / 2)) (ln b n):=by
 have d:=fG B (show 0<=n by omega)
 have D:=eE B (show 0<=n by omega)
 obtain ⟨e,_⟩:=pX B d (ln b n / 2) (by unfold ln;omega)
 have Z:(fg b n).length - ln b n / 2=hf (ln b n):=by unfold hf ln;unfold ln at D;omega
 rw [Z] at e
 have Y:=vH B d U (ud D) (by unfold hf ln;unfold ln at D;omega)
 have O:((fg b n).take (hf (ln b n))).length=hf (ln b n):=by rw [yq];unfold hf ln;unfold ln at D;omega
 rw [e]
 refine ⟨B,D,?_,?_⟩
 ·have I:0<val b ((fg b n).take (hf (ln b n))):=by
   rw [<-e]
   have g:=gC B U
   have p:=au (show 0<b by omega) (ln b n / 2)
   by_cases z:0<n / b ^ (ln b n / 2)
   ·exact z
   ·have z0:=Int.ediv_nonneg (show 0<=n by omega) (show 0<=b ^ (ln b n / 2) by omega)
    have z1:n / b ^ (ln b n / 2)=0:=by omega
    have J:=Int.lt_mul_of_ediv_lt p (show n / b ^ (ln b n / 2)<1 by omega)
    rw [xm] at J
    by_cases q:ln b n=1
    ·rw [q] at J;simp at J;omega
    ·have:=bF (b:=b) (by omega) (show ln b n / 2<=ln b n - 1 by omega)
     omega
  have:=Y.ge B I
  rw [O] at this;exact this
 ·have:=Y.lt B
  rw [O] at this;exact this
theorem gb {b n:Int} (z:2<=b) (D:1<=n) (h:dh b n=true):gk b (n / b ^ (ln b n / 2)) (ln b n)=n:=by
 have d:=fG z (show 0<=n by omega)
 have F:=bM z D
 obtain ⟨e,_⟩:=pX z d (ln b n / 2) (by unfold ln;omega)
 have B:=eE z (show 0<=n by omega)
 have U:(fg b n).length - ln b n / 2=hf (ln b n):=by unfold hf ln;unfold ln at B;omega
 rw [U] at e
 have I:=vH z d D (ud B) (by unfold hf ln;unfold ln at B;omega)
 have e3:fg b (n / b ^ (ln b n / 2))=(fg b n).take (hf (ln b n)):=by
  rw [e];exact (I.fg z (I.nn z)).symm
 have J:fg b n=(fg b n).reverse:=yG h
 unfold gk
 rw [e3,List.take_take]
 have O:min (ln b n / 2) (hf (ln b n))=ln b n / 2:=by unfold hf;omega
 rw [O]
 have Y:(fg b n).drop (hf (ln b n))=((fg b n).take (ln b n / 2)).reverse:=by
  have:(fg b n).drop (hf (ln b n))=((fg b n).reverse).drop (hf (ln b n)):=by rw [<-J]
  rw [this,List.drop_reverse]
  congr 2
  unfold hf ln;unfold ln at B;omega
 rw [<-Y,List.take_append_drop]
 exact d.val
def Mp (b m:Int):Prop:=0<=m/\dh b m=true
structure AM (b n m:Int):Prop where
 mp:Mp b m
 le:m<=n
 top:∀k,Mp b k->k<=n->k<=m
structure AL (b n m:Int):Prop where
 mp:Mp b m
 le:n<=m
 bot:∀k,Mp b k->n<=k->m<=k
structure Nx (b n m:Int):Prop where
 mp:Mp b m
 lt:n<m
 bot:∀k,Mp b k->n<k->m<=k
theorem AM.uniq {b n m m':Int} (h:AM b n m) (h':AM b n m'):m=m':=by
 have:=h.top m' h'.mp h'.le
 have:=h'.top m h.mp h.le
 omega
theorem Nx.uniq {b n m m':Int} (h:Nx b n m) (h':Nx b n m'):m=m':=by
 have:=h.bot m' h'.mp h'.lt
 have:=h'.bot m h.mp h.lt
 omega
theorem fH {b m:Int} (h0:0<=m) (h:m<b):Mp b m:=⟨h0,pW h0 h⟩
theorem vI {b:Int} (B:2<=b) {L:Nat} (hL:1<=L):Fr b (b ^ hf L - 1) L/\gk b (b ^ hf L - 1) L=b ^ L - 1:=by
 have h1:=ud hL
 have F:Fr b (b ^ hf L - 1) L:=⟨B,hL,by
  have:=Yp B (show hf L - 1<hf L by omega)
  omega,by omega⟩
 refine ⟨F,?_⟩
 -- its kZ are all the greatest
 have rep:∀k:Nat,val b (List.replicate k (b - 1))=b ^ k - 1:=by
  intro k
  induction k with
  | zero=>simp [val]
  | succ k ih=>
   rw [zM,fD,zD,ih,zI,Int.sub_mul,xm,yt b]
   omega
 have D:gq b (b ^ hf L - 1) (List.replicate (hf L) (b - 1)):=⟨λd hd=>by have:=List.eq_of_mem_replicate hd;omega,rep _,by
  obtain ⟨k,n⟩:∃k,hf L=k+1:=⟨hf L - 1,by omega⟩
  rw [n,zM];simp,.inr (by
  obtain ⟨k,n⟩:∃k,hf L=k+1:=⟨hf L - 1,by omega⟩
  rw [n,zM]
  intro z
  have:b - 1=0:=by simpa using z
  omega)⟩
 have e:=(D.fg B (by have:=F.pos;omega))
 unfold gk
 rw [<-e,List.take_replicate,List.reverse_replicate,List.replicate_append_replicate,rep]
 have:hf L+min (L / 2) (hf L)=L:=by unfold hf;omega
 rw [this]
theorem jW {b:Int} (n:2<=b) (L:Nat):Mp b (b ^ L - 1):=by
 by_cases h:1<=L
 ·obtain ⟨F,e⟩:=vI n h
  rw [<-e];exact ⟨F.xK,F.dh⟩
 ·have:L=0:=by omega
  subst this
  exact fH (by simp) (by simp;omega)
theorem Fr.mp {b f:Int} {L:Nat} (h:Fr b f L):Mp b (gk b f L):=⟨h.xK,h.dh⟩
theorem Oj {b n:Int} (z:2<=b) (O:1<=n) (h:gk b (n / b ^ (ln b n / 2)) (ln b n)<=n):AM b n (gk b (n / b ^ (ln b n / 2)) (ln b n)):=by
 have F:=bM z O
 refine ⟨F.mp,h,λk D B=>?_⟩
 by_cases Y:k<=0
 ·have:=F.xK;omega
 have ll:=kY z D.1 B
 by_cases hL:ln b k=ln b n
 ·have J:=bM z (show 1<=k by omega)
  have I:=gb z (show 1<=k by omega) D.2
  rw [hL] at J I
  have U:k / b ^ (ln b n / 2)<=n / b ^ (ln b n / 2):=yZ (au (by omega) _) B
  by_cases Z:k / b ^ (ln b n / 2)=n / b ^ (ln b n / 2)
  ·rw [Z] at I;omega
  ·have:=J.mono F (by omega)
   omega
 ·have g1:=iw z D.1
  have g2:=gC z (show 1<=gk b (n / b ^ (ln b n / 2)) (ln b n) by
   have:=F.split.1
   have:=F.pos
   have p:=au (show 0<b by omega) (ln b n / 2)
   have:=zy (show 1<=n / b ^ (ln b n / 2) by omega) (show 0<=b ^ (ln b n / 2) by omega)
   omega)
  rw [F.ln] at g2
  have:=bF (b:=b) (by omega) (show ln b k<=ln b n - 1 by omega)
  omega
theorem SM {b n:Int} (z:2<=b) (Y:1<=n) (h:n<gk b (n / b ^ (ln b n / 2)) (ln b n)) (hf':n / b ^ (ln b n / 2)≠b ^ (hf (ln b n) - 1)):AM b n (gk b (n / b ^ (ln b n / 2) - 1) (ln b n)):=by
 have F:=bM z Y
 have B:Fr b (n / b ^ (ln b n / 2) - 1) (ln b n):=⟨z,F.L1,by have:=F.lo;omega,by have:=F.hi;omega⟩
 have p:=au (show 0<b by omega) (ln b n / 2)
 have h1:gk b (n / b ^ (ln b n / 2) - 1) (ln b n)<=n:=by
  have:=B.split.2
  have e:n / b ^ (ln b n / 2) - 1+1=n / b ^ (ln b n / 2):=by omega
  rw [e] at this
  have:=Int.ediv_mul_le n (show b ^ (ln b n / 2)≠0 by omega)
  omega
 refine ⟨B.mp,h1,λk I D=>?_⟩
 by_cases hk1:k<=0
 ·have:=B.xK;omega
 have ll:=kY z I.1 D
 by_cases hL:ln b k=ln b n
 ·have U:=bM z (show 1<=k by omega)
  have O:=gb z (show 1<=k by omega) I.2
  rw [hL] at U O
  have Z:k / b ^ (ln b n / 2)<=n / b ^ (ln b n / 2):=yZ p D
  by_cases he:k / b ^ (ln b n / 2)=n / b ^ (ln b n / 2)
  ·rw [he] at O;omega
  ·by_cases J:k / b ^ (ln b n / 2)=n / b ^ (ln b n / 2) - 1
   ·rw [J] at O;omega
   ·have:=U.mono B (by omega)
    omega
 ·have g1:=iw z I.1
  have g2:=gC z (show 1<=gk b (n / b ^ (ln b n / 2) - 1) (ln b n) by
   have:=B.split.1
   have:=B.pos
   have:=zy (show 1<=n / b ^ (ln b n / 2) - 1 by omega) (show 0<=b ^ (ln b n / 2) by omega)
   omega)
  rw [B.ln] at g2
  have:=bF (b:=b) (by omega) (show ln b k<=ln b n - 1 by omega)
  omega
theorem Ol {b n:Int} (z:2<=b) (I:1<=n) (h:n<gk b (n / b ^ (ln b n / 2)) (ln b n)) (Z:n / b ^ (ln b n / 2)=b ^ (hf (ln b n) - 1)):AM b n (b ^ (ln b n - 1) - 1):=by
 have F:=bM z I
 have p:=au (show 0<b by omega) (ln b n / 2)
 have g:=gC z I
 refine ⟨jW z _,by omega,λk D B=>?_⟩
 have q:=au (show 0<b by omega) (ln b n - 1)
 by_cases Y:k<=0
 ·omega
 have ll:=kY z D.1 B
 by_cases hL:ln b k=ln b n
 ·have O:=bM z (show 1<=k by omega)
  have J:=gb z (show 1<=k by omega) D.2
  rw [hL] at O J
  have U:k / b ^ (ln b n / 2)<=n / b ^ (ln b n / 2):=yZ p B
  have:=O.lo
  have he:k / b ^ (ln b n / 2)=n / b ^ (ln b n / 2):=by omega
  rw [he] at J;omega
 ·have g1:=iw z D.1
  have:=bF (b:=b) (by omega) (show ln b k<=ln b n - 1 by omega)
  omega
theorem Om {b n:Int} (z:2<=b) (I:1<=n) (h:n<=gk b (n / b ^ (ln b n / 2)) (ln b n)):AL b n (gk b (n / b ^ (ln b n / 2)) (ln b n)):=by
 have F:=bM z I
 have p:=au (show 0<b by omega) (ln b n / 2)
 refine ⟨F.mp,h,λk O B=>?_⟩
 have ll:=kY z (show 0<=n by omega) B
 by_cases hL:ln b k=ln b n
 ·have D:=bM z (show 1<=k by omega)
  have Z:=gb z (show 1<=k by omega) O.2
  rw [hL] at D Z
  have J:n / b ^ (ln b n / 2)<=k / b ^ (ln b n / 2):=yZ p B
  by_cases U:n / b ^ (ln b n / 2)=k / b ^ (ln b n / 2)
  ·rw [U];omega
  ·have:=F.mono D (by omega)
   omega
 ·have Y:=iw z F.xK
  rw [F.ln] at Y
  have g2:=gC z (show 1<=k by omega)
  have:=bF (b:=b) (by omega) (show ln b n<=ln b k - 1 by omega)
  omega
theorem SN {b n:Int} (B:2<=b) (Y:1<=n) (h:gk b (n / b ^ (ln b n / 2)) (ln b n)<n):Fr b (n / b ^ (ln b n / 2)+1) (ln b n)/\AL b n (gk b (n / b ^ (ln b n / 2)+1) (ln b n)):=by
 have F:=bM B Y
 have p:=au (show 0<b by omega) (ln b n / 2)
 have D:Fr b (n / b ^ (ln b n / 2)+1) (ln b n):=⟨B,F.L1,by have:=F.lo;omega,by
  have hi:=F.hi
  by_cases z:n / b ^ (ln b n / 2)+1<b ^ hf (ln b n)
  ·exact z
  ·have e:n / b ^ (ln b n / 2)=b ^ hf (ln b n) - 1:=by omega
   have:=(vI B F.L1).2
   rw [<-e] at this
   have:=iw B (show 0<=n by omega)
   omega⟩
 refine ⟨D,D.mp,?_,λk hk I=>?_⟩
 ·have h1:=D.split.1
  have:=Int.lt_ediv_add_one_mul_self n p
  omega
 have ll:=kY B (show 0<=n by omega) I
 by_cases hL:ln b k=ln b n
 ·have U:=bM B (show 1<=k by omega)
  have O:=gb B (show 1<=k by omega) hk.2
  rw [hL] at U O
  have Z:n / b ^ (ln b n / 2)<=k / b ^ (ln b n / 2):=yZ p I
  by_cases he:n / b ^ (ln b n / 2)=k / b ^ (ln b n / 2)
  ·rw [<-he] at O;omega
  ·by_cases J:n / b ^ (ln b n / 2)+1=k / b ^ (ln b n / 2)
   ·rw [J];omega
   ·have:=D.mono U (by omega)
    omega
 ·have g1:=iw B D.xK
  rw [D.ln] at g1
  have g2:=gC B (show 1<=k by omega)
  have:=bF (b:=b) (by omega) (show ln b n<=ln b k - 1 by omega)
  omega
theorem Cv {b m:Int} (n:2<=b) (I:Mp b m) (h1:1<=m) (h:m≠b ^ ln b m - 1):Fr b (m / b ^ (ln b m / 2)+1) (ln b m)/\Nx b m (gk b (m / b ^ (ln b m / 2)+1) (ln b m)):=by
 have F:=bM n h1
 have em:=gb n h1 I.2
 have p:=au (show 0<b by omega) (ln b m / 2)
 have B:Fr b (m / b ^ (ln b m / 2)+1) (ln b m):=⟨n,F.L1,by have:=F.lo;omega,by
  have hi:=F.hi
  by_cases z:m / b ^ (ln b m / 2)+1<b ^ hf (ln b m)
  ·exact z
  ·have e:m / b ^ (ln b m / 2)=b ^ hf (ln b m) - 1:=by omega
   have:=(vI n F.L1).2
   rw [<-e] at this
   omega⟩
 refine ⟨B,B.mp,by have:=F.mono B (by omega);omega,λk Z Y=>?_⟩
 have ll:=kY n I.1 (show m<=k by omega)
 by_cases hL:ln b k=ln b m
 ·have O:=bM n (show 1<=k by omega)
  have J:=gb n (show 1<=k by omega) Z.2
  rw [hL] at O J
  have U:m / b ^ (ln b m / 2)<=k / b ^ (ln b m / 2):=yZ p (by omega)
  by_cases he:m / b ^ (ln b m / 2)=k / b ^ (ln b m / 2)
  ·rw [<-he] at J;omega
  ·by_cases D:m / b ^ (ln b m / 2)+1=k / b ^ (ln b m / 2)
   ·rw [D];omega
   ·have:=B.mono O (by omega)
    omega
 ·have g1:=iw n B.xK
  rw [B.ln] at g1
  have g2:=gC n (show 1<=k by omega)
  have:=bF (b:=b) (by omega) (show ln b m<=ln b k - 1 by omega)
  omega
theorem k_ (b:Int):∀k:Nat,val b (List.replicate k 0)=0
 | 0=>rfl
 | k+1=>by rw [zM,fD,k_ b k,Int.zero_mul,Int.zero_add]
theorem Oo {b:Int} (n:2<=b) (k:Nat):gq b (b ^ k) (1::List.replicate k 0):=
 ⟨λd hd=>by
  rcases zm.mp hd with rfl|hd
  ·omega
  ·have:=List.eq_of_mem_replicate hd;omega,by rw [fD,k_,zD];omega,by simp,.inr (by simp)⟩
theorem SQ {b:Int} (n:2<=b) {k:Nat} (B:1<=k):dh b (b ^ k)=false:=by
 unfold dh
 have e:=(Oo n k).fg n (by have:=au (show 0<b by omega) k;omega)
 rw [<-e]
 obtain ⟨j,rfl⟩:∃j,k=j+1:=⟨k - 1,by omega⟩
 refine zO λz=>?_
 have:=yd List.head? z
 rw [List.replicate_succ',yi,yK] at this
 simp at this
theorem Jp {b:Int} (n:2<=b) (k:Nat):gq b (b ^ (k+1)+1) (1::(List.replicate k 0++[1])):=
 ⟨λd hd=>by
  rcases zm.mp hd with rfl|hd
  ·omega
  ·rcases zK.mp hd with hd|hd
   ·have:=List.eq_of_mem_replicate hd;omega
   ·rw [zr] at hd;omega,by
  rw [fD,jf,k_,zj,zD,yx];omega,by simp,.inr (by simp)⟩
theorem SX {b:Int} (n:2<=b) (k:Nat):Mp b (b ^ (k+1)+1):=by
 have p:=au (show 0<b by omega) (k+1)
 refine ⟨by omega,?_⟩
 unfold dh
 rw [<-(Jp n k).fg n (by omega)]
 refine zZ ?_
 rw [yi,yK,List.reverse_replicate]
 simp
theorem Cw {b:Int} (n:2<=b) {L:Nat} (hL:1<=L):Nx b (b ^ L - 1) (b ^ L+1):=by
 obtain ⟨j,rfl⟩:∃j,L=j+1:=⟨L - 1,by omega⟩
 refine ⟨SX n j,by omega,λk z h=>?_⟩
 by_cases e:k=b ^ (j+1)
 ·have:=z.2
  rw [e,SQ n (by omega)] at this;cases this
 ·omega
theorem G9 {b:Int} (n:2<=b):Nx b 0 1:=⟨fH (by decide) (by omega),by decide,λk _ h=>by omega⟩
theorem Cy {b n:Int} (B:2<=b) (z:0<=n) (h:n<uQ):ln b n<=4001:=Oh B z h
theorem pw_big {b n:Int} (B:2<=b) (I:0<=n) (h:n<uQ) {k:Nat} (D:k<=ln b n - 1):b ^ k<2 ^ 4000:=by
 by_cases z:1<=n
 ·have:=gC B z
  have:=bF (b:=b) (by omega) D
  rw [<-nZ];omega
 ·have e:n=0:=by omega
  subst e
  have:ln b 0=1:=by unfold ln;rw [rM B];rfl
  have:k=0:=by omega
  subst this
  have:(1:Int)<2 ^ 4000:=by decide
  simpa using this
def vJ (b:Int) (L:Nat):Int:=b ^ hf L - 1+b ^ (L / 2) - 1
def pl (b m:Int):Int:=if m=0 then 0 else vJ b (ln b m - 1)+(m / b ^ (ln b m / 2) - b ^ (hf (ln b m) - 1))+1
def xM (b:Int):Nat->Int
 | 0=>0
 | n+1=>xM b n+(if dh b ((n:Int)+1)=true then 1 else 0)
def cnt (b n:Int):Int:=xM b n.toNat
theorem ue {b:Int} {L:Nat} (hL:1<=L):vJ b L=vJ b (L - 1)+b ^ hf L - b ^ (hf L - 1):=by
 unfold vJ
 have e1:hf (L - 1)=L / 2:=by unfold hf;omega
 have e2:(L - 1) / 2=hf L - 1:=by unfold hf;omega
 rw [e1,e2];omega
theorem S5 {b m z:Int} (n:2<=b) (D:Mp b m) (h:Nx b m z):pl b z=pl b m+1:=by
 by_cases O:m=0
 ·subst O
  have e:=h.uniq (G9 n)
  subst e
  have l1:ln b 1=1:=by unfold ln;rw [t_ (by decide) (by omega)];rfl
  unfold pl
  rw [zh (by decide),zo rfl,l1]
  simp [vJ,hf]
 have I:1<=m:=by have:=D.1;omega
 have F:=bM n I
 have em:=gb n I D.2
 by_cases U:m=b ^ ln b m - 1
 ·-- greatest kZ alone
  have l0:=eE n D.1
  have nx:=Cw n l0
  rw [<-U] at nx
  have e:=h.uniq nx
  have p:=au (show 0<b by omega) (ln b m)
  have q2:=bF (b:=b) (by omega) (show 1<=ln b m by omega)
  rw [uc] at q2
  have J:ln b z=ln b m+1:=Oi n (by omega) (by rw [ye,e];omega) (by
   rw [e,zI]
   have:b ^ ln b m * 2<=b ^ ln b m * b:=yc n (by omega)
   omega)
  have B:z≠0:=by rw [e];omega
  have fr:z / b ^ ((ln b m+1) / 2)=b ^ (hf (ln b m+1) - 1):=by
   have ep:b ^ ln b m=b ^ (hf (ln b m+1) - 1) * b ^ ((ln b m+1) / 2):=by
    rw [<-xt];congr 1;unfold hf;omega
   have p2:=au (show 0<b by omega) ((ln b m+1) / 2)
   have Z:=bF (b:=b) (by omega) (show 1<=(ln b m+1) / 2 by omega)
   rw [uc] at Z
   rw [e,ep,xx,Int.add_mul_ediv_right _ _ (by omega),Int.ediv_eq_zero_of_lt (by decide) (by omega),Int.zero_add]
  have f0:m / b ^ (ln b m / 2)=b ^ hf (ln b m) - 1:=by
   have N:=vI n l0
   have:gk b (b ^ hf (ln b m) - 1) (ln b m)=m:=by rw [N.2];exact U.symm
   have g:=N.1.front
   rw [this] at g;exact g
  unfold pl
  rw [zh B,zh O,J,ye,fr,f0,ue l0]
  omega
 ·obtain ⟨Y,nx⟩:=Cv n D I U
  have e:=h.uniq nx
  have J:ln b z=ln b m:=by rw [e];exact Y.ln
  have fr:z / b ^ (ln b m / 2)=m / b ^ (ln b m / 2)+1:=by rw [e];exact Y.front
  have B:z≠0:=by have:=h.lt;omega
  unfold pl
  rw [zh B,zh O,J,fr]
  omega
theorem AM.step {b:Int} {n:Nat} {m:Int} (h:AM b n m) (B:dh b ((n:Int)+1)=false):AM b ((n:Int)+1) m:=⟨h.mp,by have:=h.le;omega,λk z D=>by
 by_cases e:k=(n:Int)+1
 ·rw [e] at z;rw [z.2] at B;cases B
 ·exact h.top k z (by omega)⟩
theorem AM.self {b m:Int} (h:Mp b m):AM b m m:=⟨h,yS _,λ_ _ h=>h⟩
theorem G_ {b:Int} (B:2<=b):∀n:Nat,∃m,AM b n m
 | 0=>⟨0,fH (by decide) (by omega),by simp,λk _ h=>h⟩
 | n+1=>by
  cases z:dh b ((n:Int)+1) with
  | true=>exact ⟨(n:Int)+1,AM.self ⟨by omega,z⟩⟩
  | false=>
   obtain ⟨m,h⟩:=G_ B n
   exact ⟨m,h.step z⟩
theorem Hf {b:Int} (B:2<=b):∀(n:Nat) (m:Int),AM b n m->pl b m=xM b n
 | 0,m,h=>by
  have:m=0:=by have:=h.le;have:=h.mp.1;omega
  subst this
  unfold pl;rw [zo rfl];rfl
 | n+1,m,h=>by
  have h':AM b ((n:Int)+1) m:=h
  show pl b m=xM b n+_
  obtain ⟨m0,h0⟩:=G_ B n
  have D:=Hf B n m0 h0
  cases I:dh b ((n:Int)+1) with
  | true=>
   have e:m=(n:Int)+1:=h'.uniq (AM.self ⟨by omega,I⟩)
   have nx:Nx b m0 m:=⟨h.mp,by have:=h0.le;omega,λk O J=>by
    by_cases z:k<=n
    ·have:=h0.top k O z;omega
    ·omega⟩
   rw [S5 B h0.mp nx,D];simp
  | false=>
   have e:m=m0:=h'.uniq (h0.step I)
   rw [e,D];simp
theorem xN {b n m:Int} (z:2<=b) (B:0<=n) (h:AM b n m):pl b m=cnt b n:=by
 unfold cnt
 refine Hf z _ _ ?_
 have:((n.toNat:Nat):Int)=n:=by omega
 rw [this];exact h
theorem Fr.pl {b f:Int} {L:Nat} (F:Fr b f L):pl b (gk b f L)=vJ b (L - 1)+(f - b ^ (hf L - 1))+1:=by
 have h1:=F.split.1
 have p:=au (show 0<b by have:=F.b2;omega) (L / 2)
 have:=F.pos
 have:=zy (show 1<=f by omega) (show 0<=b ^ (L / 2) by omega)
 unfold M.pl
 rw [zh (by omega),F.ln,F.front]
def Mid:Int:=2 ^ 1100
theorem Yq {m:Int} (h:m<=10 ^ 60):m<Mid:=by
 have:(10:Int) ^ 60<Mid:=by unfold Mid;decide
 omega
theorem Oq {b m:Int} (n:2<=b) (z:Mp b m) (h1:1<=m):pl b m<=vJ b (ln b m):=by
 have F:=bM n h1
 have e:=F.pl
 rw [gb n h1 z.2] at e
 rw [e,ue F.L1]
 have:=F.hi
 omega
theorem U4 {x y:Int} (B:0<=x) (n:0<=y) (h:x * x<=y * y):x<=y:=by
 by_cases z:x<=y
 ·exact z
 ·have h1:y * x<x * x:=Int.mul_lt_mul_of_pos_right (by omega) (by omega)
  have h2:y * y<=y * x:=yc (by omega) n
  omega
theorem U5 {b m:Int} (B:2<=b) (n:b<=36) (z:Mp b m) (h:m<=10 ^ 40):pl b m<10 ^ 24:=by
 by_cases J:m=0
 ·subst J;unfold pl;rw [zo rfl];decide
 have I:1<=m:=by have:=z.1;omega
 have l0:=eE B z.1
 have g:=gC B I
 have O:=au (show 0<b by omega) (hf (ln b m))
 have e1:b ^ hf (ln b m) * b ^ hf (ln b m)<=(36 * 10 ^ 20) * (36 * 10 ^ 20):=by
  rw [<-xt]
  have h1:hf (ln b m)+hf (ln b m)<=ln b m - 1+2:=by unfold hf;omega
  have h2:=bF (b:=b) (by omega) h1
  have D:b ^ (ln b m - 1+2)=b ^ (ln b m - 1) * b ^ 2:=xt ..
  rw [D] at h2
  have h3:b ^ 2<=36 * 36:=by
   have:b ^ 2=b * b:=by rw [zI,uc]
   rw [this]
   exact yC n n (by omega) (by decide)
  have h4:b ^ (ln b m - 1) * b ^ 2<=10 ^ 40 * (36 * 36):=yC (by omega) h3 (by have:=au (show 0<b by omega) 2;omega) (by decide)
  have U:(10:Int) ^ 40 * (36 * 36)=(36 * 10 ^ 20) * (36 * 10 ^ 20):=by decide
  omega
 have e2:=U4 (by omega) (by decide) e1
 have e3:=Oq B z I
 have Y:=bF (b:=b) (by omega) (show ln b m / 2<=hf (ln b m) by unfold hf;omega)
 unfold vJ at e3
 have:(36:Int) * 10 ^ 20+36 * 10 ^ 20<10 ^ 24:=by decide
 omega
theorem Cz {b:Int} {n:Nat}:xM b (n+1)=xM b n+(if dh b ((n:Int)+1)=true then 1 else 0):=rfl
def Fl (b:Int):Nat->List Int
 | 0=>[]
 | n+1=>if dh b ((n:Int)+1)=true then Fl b n++[(n:Int)+1] else Fl b n
def bH (b n:Int):List Int:=Fl b n.toNat
theorem rN {b:Int} {n:Nat} (h:dh b ((n:Int)+1)=true):Fl b (n+1)=Fl b n++[(n:Int)+1]:=by rw [Fl,zo h]
theorem xO {b:Int} {n:Nat} (h:¬dh b ((n:Int)+1)=true):Fl b (n+1)=Fl b n:=by rw [Fl,zh h]
theorem Hi {b:Int} {m:Nat}:∀{n:Nat},m<=n->(∀k:Int,(m:Int)<k->k<=(n:Int)->¬dh b k=true)->Fl b n=Fl b m
 | 0,h,_=>by
  have:m=0:=by omega
  rw [this]
 | n+1,h,hk=>by
  by_cases e:m=n+1
  ·rw [e]
  ·rw [xO (hk _ (by omega) (by omega))]
   exact Hi (by omega) λk h1 h2=>hk k h1 (by omega)
theorem Hj {b m z n:Int} (B:Mp b m) (h:Nx b m z) (h1:m<=n) (h2:n<z):bH b n=bH b m:=by
 have I:=B.1
 unfold bH
 refine Hi (by omega) λk k1 k2 D=>?_
 have:=h.bot k ⟨by omega,D⟩ (by omega)
 omega
theorem Ot {b m m':Int} (z:Mp b m) (h:Nx b m m'):bH b m'=bH b m++[m']:=by
 have D:=z.1
 have lt:=h.lt
 have g:=Hj z h (n:=m' - 1) (by omega) (by omega)
 rw [<-g]
 unfold bH
 obtain ⟨k,B⟩:∃k,m'.toNat=k+1:=⟨m'.toNat - 1,by omega⟩
 have e:(m' - 1).toNat=k:=by omega
 have e2:(k:Int)+1=m':=by omega
 rw [B,e,rN (by rw [e2];exact h.mp.2),e2]
theorem xP {b:Int}:∀{n:Nat} {k:Int},k∈Fl b n ↔ 1<=k/\k<=(n:Int)/\dh b k=true
 | 0,k=>by
  simp only [Fl,yQ,false_iff]
  omega
 | n+1,k=>by
  have z:=xP (b:=b) (n:=n) (k:=k)
  by_cases h:dh b ((n:Int)+1)=true
  ·rw [rN h,zK,zr,z]
   constructor
   ·rintro (⟨h1,h2,h3⟩|rfl)
    ·exact ⟨h1,by omega,h3⟩
    ·exact ⟨by omega,by omega,h⟩
   ·rintro ⟨h1,h2,h3⟩
    by_cases e:k=(n:Int)+1
    ·exact .inr e
    ·exact .inl ⟨h1,by omega,h3⟩
  ·rw [xO h,z]
   constructor
   ·rintro ⟨h1,h2,h3⟩;exact ⟨h1,by omega,h3⟩
   ·rintro ⟨h1,h2,h3⟩
    refine ⟨h1,?_,h3⟩
    by_cases e:k=(n:Int)+1
    ·rw [e] at h3;exact absurd h3 h
    ·omega
theorem lq {b n k:Int} (z:0<=n):k∈bH b n ↔ 1<=k/\k<=n/\dh b k=true:=by
 unfold bH
 rw [xP]
 have:((n.toNat:Nat):Int)=n:=by omega
 rw [this]
theorem uf (b:Int):∀n:Nat,(Fl b n).Pairwise (·<·)
 | 0=>List.Pairwise.nil
 | n+1=>by
  have z:=uf b n
  by_cases h:dh b ((n:Int)+1)=true
  ·rw [rN h,List.pairwise_append]
   refine ⟨z,List.pairwise_singleton _ _,λx D y B=>?_⟩
   rw [zr] at B
   have:=(xP.mp D).2.1
   omega
  ·rw [xO h];exact z
theorem jr (b n:Int):(bH b n).Pairwise (·<·):=uf b _
theorem Hl (b:Int):∀n:Nat,((Fl b n).length:Int)=xM b n
 | 0=>rfl
 | n+1=>by
  have z:=Hl b n
  by_cases h:dh b ((n:Int)+1)=true
  ·rw [rN h,zj,Cz,zo h,<-z];simp
  ·rw [xO h,Cz,zh h,<-z];simp
theorem n_ (b n:Int):((bH b n).length:Int)=cnt b n:=Hl b _
theorem Ou {b:Int} (n:2<=b) {L:Nat} (hL:1<=L):Nx b (b ^ (L - 1) - 1) (gk b (b ^ (hf L - 1)) L):=by
 by_cases h1:L=1
 ·subst h1
  have e:gk b (b ^ (hf 1 - 1)) 1=1:=by
   show gk b (b ^ 0) 1=1
   rw [xy]
   unfold gk;rw [t_ (by decide) (by omega)];simp [val]
  rw [e]
  show Nx b (b ^ 0 - 1) 1
  rw [xy]
  exact G9 n
 ·obtain ⟨K,rfl⟩:∃K,L=K+1:=⟨L - 1,by omega⟩
  have z:1<=K:=by omega
  rw [ye]
  have nx:=Cw n z
  have p:=bF (b:=b) (by omega) z
  rw [uc] at p
  have D:ln b (b ^ K+1)=K+1:=Oi n (by omega) (by rw [ye];omega) (by
   rw [zI]
   have:b ^ K * 2<=b ^ K * b:=yc n (by omega)
   omega)
  have mp:=gb n (show 1<=b ^ K+1 by omega) nx.mp.2
  rw [D] at mp
  have fr:(b ^ K+1) / b ^ ((K+1) / 2)=b ^ (hf (K+1) - 1):=by
   have I:b ^ K=b ^ (hf (K+1) - 1) * b ^ ((K+1) / 2):=by
    rw [<-xt];congr 1;unfold hf;omega
   have p2:=au (show 0<b by omega) ((K+1) / 2)
   have B:=bF (b:=b) (by omega) (show 1<=(K+1) / 2 by omega)
   rw [uc] at B
   rw [I,xx,Int.add_mul_ediv_right _ _ (by omega),Int.ediv_eq_zero_of_lt (by decide) (by omega),Int.zero_add]
  rw [fr] at mp
  rw [mp]
  exact nx
theorem aa1 {b f:Int} {L:Nat} (F:Fr b f L) (I:Fr b (f+1) L):Nx b (gk b f L) (gk b (f+1) L):=by
 have n:=F.b2
 obtain ⟨D,B⟩:=vI n F.L1
 have z:gk b f L<b ^ L - 1:=by rw [<-B];exact F.mono D (by have:=I.hi;omega)
 have s:=F.split.1
 have p:=au (show 0<b by omega) (L / 2)
 have fp:=F.pos
 have:=zy (show 1<=f by omega) (show 0<=b ^ (L / 2) by omega)
 have nx:=Cv n F.mp (by omega) (by rw [F.ln];omega)
 rw [F.ln,F.front] at nx
 exact nx.2
theorem xQ {b n:Int} (B:2<=b) (D:b<=36) (h0:0<=n) (h:n<=10 ^ 6):cnt b n<80000:=by
 obtain ⟨m,z⟩:=G_ B n.toNat
 rw [show ((n.toNat:Nat):Int)=n by omega] at z
 rw [<-xN B h0 z]
 have U:=z.le
 by_cases O:m=0
 ·rw [O];unfold pl;rw [zo rfl];decide
 have J:1<=m:=by have:=z.mp.1;omega
 have l0:=eE B z.mp.1
 have g:=gC B J
 have Y:=au (show 0<b by omega) (hf (ln b m))
 have e1:b ^ hf (ln b m) * b ^ hf (ln b m)<=(36 * 10 ^ 3) * (36 * 10 ^ 3):=by
  rw [<-xt]
  have h1:hf (ln b m)+hf (ln b m)<=ln b m - 1+2:=by unfold hf;omega
  have h2:=bF (b:=b) (by omega) h1
  have I:b ^ (ln b m - 1+2)=b ^ (ln b m - 1) * b ^ 2:=xt ..
  rw [I] at h2
  have h3:b ^ 2<=36 * 36:=by
   have:b ^ 2=b * b:=by rw [zI,uc]
   rw [this]
   exact yC D D (by omega) (by decide)
  have h4:b ^ (ln b m - 1) * b ^ 2<=10 ^ 6 * (36 * 36):=yC (by omega) h3 (by have:=au (show 0<b by omega) 2;omega) (by decide)
  have Z:(10:Int) ^ 6 * (36 * 36)=(36 * 10 ^ 3) * (36 * 10 ^ 3):=by decide
  omega
 have e2:=U4 (by omega) (by decide) e1
 have e3:=Oq B z.mp J
 have e4:=bF (b:=b) (by omega) (show ln b m / 2<=hf (ln b m) by unfold hf;omega)
 unfold vJ at e3
 have:(36:Int) * 10 ^ 3+36 * 10 ^ 3<80000:=by decide
 omega
def cg (b:Bool):List Int->Nat->Int->Int
 | [],k,n=>if n=0/\(b=true->k=0) then 1 else 0
 | p::ps,k,n=>cg b ps k n+if h:0<p/\p<=n/\(b=true->0<k) then cg b (p::ps) (k - 1) (n - p) else 0
termination_by ps _ n=>(ps.length,n.toNat)
decreasing_by
 ·apply Prod.Lex.left;simp
 ·apply Prod.Lex.right;omega
theorem jt {b:Bool} {k:Nat} {n:Int}:cg b [] k n=if n=0/\(b=true->k=0) then 1 else 0:=by rw [cg]
theorem gG {b:Bool} {p:Int} {ps:List Int} {k:Nat} {n:Int}:cg b (p::ps) k n=cg b ps k n+if 0<p/\p<=n/\(b=true->0<k) then cg b (p::ps) (k - 1) (n - p) else 0:=by
 rw [cg]
 split<;>rfl
theorem xR {b:Bool} {p:Int} {ps:List Int} {Q:Nat->Int->Prop} (h:∀k n,(0<p->p<=n->(b=true->0<k)->Q (k - 1) (n - p))->Q k n):∀k n,Q k n:=by
 have:∀(m:Nat) (k:Nat) (n:Int),n.toNat<=m->Q k n:=by
  intro m
  induction m with
  | zero=>intro k n z;exact h k n λh1 h2 _=>by omega
  | succ m ih=>intro k n z;exact h k n λh1 h2 _=>ih _ _ (by omega)
 exact λk n=>this n.toNat k n (zx _)
theorem vK {b:Bool}:∀(ps:List Int) (k:Nat) (n:Int),0<=cg b ps k n
 | [],k,n=>by rw [jt];split<;>omega
 | p::ps,k,n=>by
  refine xR (b:=b) (p:=p) (ps:=ps) (Q:=λk n=>0<=cg b (p::ps) k n) (λk n z=>?_) k n
  rw [gG]
  have:=vK (b:=b) ps k n
  split
  ·rename_i h;have:=z h.1 h.2.1 h.2.2;omega
  ·omega
theorem Ov {b:Bool}:∀(ps:List Int) (k:Nat) (n:Int),n<0->cg b ps k n=0
 | [],k,n,h=>by rw [jt,zh (by omega)]
 | p::ps,k,n,h=>by rw [gG,Ov ps k n h,zh (by omega)];rfl
theorem Hq {b:Bool}:∀(ps:List Int) (k:Nat),cg b ps k 0=if (b=true->k=0) then 1 else 0
 | [],k=>by rw [jt];simp
 | p::ps,k=>by
  have e:¬(0<p/\p<=(0:Int)/\(b=true->0<k)):=λz=>by omega
  rw [gG,Hq ps k,zh e];exact Int.add_zero _
theorem Hr:∀(ps:List Int) (k:Nat) (n:Int),n<(k:Int)->cg true ps k n=0
 | [],k,n,h=>by rw [jt,zh (λz=>by have:=z.2 rfl;omega)]
 | p::ps,k,n,h=>by
  refine xR (b:=true) (p:=p) (ps:=ps) (Q:=λk n=>n<(k:Int)->cg true (p::ps) k n=0) (λk n B h=>?_) k n h
  rw [gG,Hr ps k n h]
  split
  ·rename_i z
   have k0:=z.2.2 rfl
   rw [B z.1 z.2.1 z.2.2 (by omega)];rfl
  ·rfl
theorem xT {m:Int} (B:0<=m):∀(ps:List Int),(∀x∈ps,x<=m)->∀(k:Nat) (n:Int),m * (k:Int)<n->cg true ps k n=0
 | [],hp,k,n,h=>by
  have:0<=m * (k:Int):=Int.mul_nonneg B (by omega)
  rw [jt,zh (by omega)]
 | p::ps,hp,k,n,h=>by
  have J:p<=m:=hp p (by simp)
  refine xR (b:=true) (p:=p) (ps:=ps) (Q:=λk n=>m * (k:Int)<n->cg true (p::ps) k n=0) (λk n D h=>?_) k n h
  rw [gG,xT B ps (λx I=>hp x (by simp [I])) k n h]
  split
  ·rename_i z
   have k0:=z.2.2 rfl
   obtain ⟨j,rfl⟩:∃j,k=j+1:=⟨k - 1,by omega⟩
   have e:m * ((j+1:Nat):Int)=m * (j:Int)+m:=by rw [Int.natCast_add,Int.mul_add];simp
   rw [D z.1 z.2.1 z.2.2 (by rw [ye];omega)];rfl
  ·rfl
theorem U6 (ps:List Int) (n:Int):cg true ps 0 n=if n=0 then 1 else 0:=by
 by_cases h:n=0
 ·subst h;rw [Hq];simp
 ·rw [zh h]
  by_cases h0:n<0
  ·exact Ov _ _ _ h0
  ·induction ps with
   | nil=>rw [jt,zh (by omega)]
   | cons p ps ih=>rw [gG,ih,zh (λz=>by have:=z.2.2 rfl;omega)];rfl
theorem Ht {p:Int} {ps:List Int} {s:Nat} {t:Int} (n:0<p) (h:p<=t):cg true (p::ps) (s+1) t=cg true ps (s+1) t+cg true (p::ps) s (t - p):=by
 rw [gG,zo ⟨n,h,λ_=>Nat.succ_pos _⟩];rfl
theorem aa2 {p:Int} {ps:List Int} {s:Nat} {t:Int} (n:0<p) (h:t<p+(s:Int)):cg true (p::ps) (s+1) t=cg true ps (s+1) t:=by
 by_cases z:p<=t
 ·rw [Ht n z,Hr _ s (t - p) (by omega),Int.add_zero]
 ·rw [gG,zh (by omega),Int.add_zero]
theorem aa3 {p:Int} {ps:List Int} {s:Nat} {t:Int} (D:0<p) (n:∀x∈ps,x<=p) (h:p * ((s:Int)+1)<t):cg true (p::ps) (s+1) t=cg true ps (s+1) t:=by
 have h':p * ((s+1:Nat):Int)<t:=by simpa using h
 rw [xT (m:=p) (by omega) (p::ps) (λx B=>by rcases zm.mp B with z|z;omega;exact n x z) (s+1) t h',xT (m:=p) (by omega) ps n (s+1) t h']
def at2 (n:List (List Int)) (s t:Nat):Option Int:=match n[s]? with
 | some r=>r[t]?
 | none=>none
theorem jX {n:List (List Int)} {s t:Nat} {v:Int} (h:at2 n s t=some v):∃r,n[s]? = some r/\r[t]? = some v:=by
 unfold at2 at h
 cases e:n[s]? with
 | none=>rw [e] at h;cases h
 | some r=>rw [e] at h;exact ⟨r,rfl,h⟩
theorem xU {n:List (List Int)} {s t:Nat} {r:List Int} (h:n[s]? = some r):at2 n s t=r[t]?:=by unfold at2;rw [h]
theorem S6 {B:List (List Int)} {n t0:Nat} {r:List Int} {v:Int} (h:B[n]? = some r) (I:t0<r.length) (s t:Nat):at2 (B.set n (r.set t0 v)) s t=if s=n/\t=t0 then some v else at2 B s t:=by
 obtain ⟨J,_⟩:=zp.mp h
 by_cases D:s=n
 ·subst D
  rw [xU (r:=r.set t0 v) (by rw [zF J]),xU h]
  by_cases z:t=t0
  ·subst z;rw [zF I,zo ⟨rfl,rfl⟩]
  ·rw [zi (Ne.symm z),zh (λy=>z y.2)]
 ·rw [zh (λy=>D y.1)]
  unfold at2
  rw [zi (Ne.symm D)]
structure Shape (N K:Nat) (ms:List (List Int)):Prop where
 len:K<ms.length
 row:∀(s:Nat) (r:List Int),ms[s]? = some r->N<r.length
theorem Shape.set {N K s t:Nat} {n:List (List Int)} {r:List Int} {v:Int} (h:Shape N K n) (B:n[s]? = some r):Shape N K (n.set s (r.set t v)):=by
 refine ⟨by rw [zR];exact h.len,λi D e=>?_⟩
 by_cases z:i=s
 ·subst z
  rw [zF (zp.mp B).1] at e
  cases e
  rw [zR];exact h.row i r B
 ·rw [zi (Ne.symm z)] at e
  exact h.row i D e
structure Tab (ps:List Int) (N K:Nat) (ms:List (List Int)):Prop where
 Jq:Shape N K ms
 val:∀s t:Nat,s<=K->t+K<=N+s->at2 ms s t=some (cg true ps s t)
structure Fo (p:Int) (ps:List Int) (N K i:Nat) (ms:List (List Int)):Prop where
 Jq:Shape N K ms
 val:∀s t:Nat,s<=K->t+K<=N+s->at2 ms s t=some (cg true (if s<=i then p::ps else ps) s t)
structure xV (p:Int) (ps:List Int) (N K i:Nat) (c:Int) (ms:List (List Int)):Prop where
 Jq:Shape N K ms
 val:∀s t:Nat,s<=K->t+K<=N+s->at2 ms s t=some (cg true (if s<=i\/(s=i+1/\(t:Int)<c) then p::ps else ps) s t)
section
variable {p:Int} {ps:List Int} {N K i:Nat} {c:Int} {ms:List (List Int)}
theorem Tab.start (h:Tab ps N K ms):Fo p ps N K 0 ms:=⟨h.Jq,λs t h1 h2=>by
 rw [h.val s t h1 h2]
 by_cases z:s<=0
 ·have:s=0:=by omega
  subst this
  rw [zo z,U6,U6]
 ·rw [zh z]⟩
theorem Fo.fin (h:Fo p ps N K K ms):Tab (p::ps) N K ms:=⟨h.Jq,λs t h1 h2=>by rw [h.val s t h1 h2,zo h1]⟩
theorem Fo.go (B:0<p) (h:Fo p ps N K i ms):xV p ps N K i (p+(i:Int)) ms:=⟨h.Jq,λs t h1 h2=>by
 rw [h.val s t h1 h2]
 by_cases z:s<=i
 ·rw [zo z,zo (.inl z)]
 ·rw [zh z]
  by_cases y:s=i+1/\(t:Int)<p+(i:Int)
  ·obtain ⟨rfl,n⟩:=y
   rw [zo (.inr ⟨rfl,n⟩),aa2 B n]
  ·rw [zh (by omega)]⟩
theorem xV.step {r:List Int} {t0:Nat} {v:Int} (B:0<p) (h:xV p ps N K i c ms) (Y:i+1<=K) (O:c=(t0:Int)) (J:p<=c) (U:t0+K<=N+(i+1)) (n:ms[i+1]? = some r) (D:v=cg true ps (i+1) c+cg true (p::ps) i (c - p)) :
  xV p ps N K i (c+1) (ms.set (i+1) (r.set t0 v)):=by
 subst O
 have I:t0<r.length:=by have:=h.Jq.row _ r n;omega
 refine ⟨h.Jq.set n,λs t h1 h2=>?_⟩
 rw [S6 n I]
 by_cases z:s=i+1/\t=t0
 ·obtain ⟨rfl,rfl⟩:=z
  rw [zo ⟨rfl,rfl⟩,zo (.inr ⟨rfl,by omega⟩),D,Ht B J]
 ·rw [zh z,h.val s t h1 h2]
  by_cases y:s<=i\/(s=i+1/\(t:Int)<(t0:Int))
  ·rw [zo y,zo (by omega)]
  ·rw [zh y,zh (by omega)]
theorem xV.read (h:xV p ps N K i c ms) (D:0<p) (B:i+1<=K) {t0:Nat} (n:c=(t0:Int)) (I:p+(i:Int)<=c) (z:t0+K<=N+(i+1)) :
  at2 ms (i+1) t0=some (cg true ps (i+1) c)/\at2 ms i (c - p).toNat=some (cg true (p::ps) i (c - p)):=by
 subst n
 refine ⟨?_,?_⟩
 ·rw [h.val (i+1) t0 B z,zh (by omega)]
 ·have e:(((t0:Int) - p).toNat:Int)=(t0:Int) - p:=by omega
  rw [h.val i _ (by omega) (by omega),zo (.inl (zx _)),e]
theorem xV.fin (h:xV p ps N K i c ms) (B:0<p) (n:∀x∈ps,x<=p) (D:∀t:Nat,t+K<=N+(i+1)->c<=(t:Int)->p * ((i:Int)+1)<(t:Int)):Fo p ps N K (i+1) ms:=⟨h.Jq,λs t h1 h2=>by
 rw [h.val s t h1 h2]
 by_cases z:s<=i\/(s=i+1/\(t:Int)<c)
 ·rw [zo z,zo (by omega)]
 ·rw [zh z]
  by_cases y:s<=i+1
  ·have e:s=i+1:=by omega
   subst e
   rw [zo y,aa3 B n (D t h2 (by omega))]
  ·rw [zh y]⟩
theorem Tab.nil:Tab [] N K (([1]++List.replicate N 0)::List.replicate K (List.replicate (N+1) 0)):=by
 refine ⟨⟨by simp,λs r e=>?_⟩,λs t h1 h2=>?_⟩
 ·cases s with
  | zero=>simp at e;subst e;simp
  | succ s=>
   rw [List.getElem?_cons_succ,zQ] at e
   split at e
   ·cases e;simp
   ·cases e
 ·rw [jt]
  cases s with
  | zero=>
   rw [xU (r:=[1]++List.replicate N 0) rfl]
   cases t with
   | zero=>simp
   | succ t=>
    have:t<N:=by omega
    simp [zQ,this]
    omega
  | succ s=>
   rw [xU (r:=List.replicate (N+1) 0) (by rw [List.getElem?_cons_succ,zQ,zo (by omega)])]
   rw [zQ,zo (by omega),zh (λz=>by have:=z.2 rfl;omega)]
end
structure Cnt (ps:List Int) (N:Nat) (xs:List Int):Prop where
 len:xs.length=N+1
 val:∀t:Nat,t<=N->xs[t]? = some (cg false ps 0 t)
section
variable {p:Int} {ps:List Int} {N:Nat} {c:Int} {xs:List Int}
theorem Cnt.nil:Cnt [] N ([1]++List.replicate N 0):=⟨by simp,λt n=>by
 rw [jt]
 cases t with
 | zero=>simp
 | succ t=>
  have:t<N:=by omega
  simp [zQ,this]
  omega⟩
end
def lw (ps:List Int):Nat->Int->Int->List (List Int)
 | 0,n,_=>if n=0 then [[]] else []
 | f+1,n,m=>if n=0 then [[]] else ps.flatMap λp=>if p<=m/\p<=n then (lw ps f (n - p) p).map λr=>p::r else []
def okW (b:Bool) (k:Nat) (l:List Int):Bool:=!b || decide (l.length=k)
theorem Hu {b d:Int} (n:2<=b) (B:1<=d) (z:d<b) (k:Nat):gq b (d * b ^ (k+1)+d) (d::(List.replicate k 0++[d])):=
 ⟨λe hd=>by
  rcases zm.mp hd with rfl|hd
  ·omega
  ·rcases zK.mp hd with hd|hd
   ·have:=List.eq_of_mem_replicate hd;omega
   ·rw [zr] at hd;omega,by
  rw [fD,jf,k_,zj,zD,yx];omega,by simp,.inr (by simp;omega)⟩
theorem U7 {b d:Int} (n:2<=b) (B:1<=d) (z:d<b) (k:Nat):Mp b (d * b ^ (k+1)+d):=by
 have p:=au (show 0<b by omega) (k+1)
 have p2:0<=d * b ^ (k+1):=Int.mul_nonneg (by omega) (by omega)
 refine ⟨by omega,?_⟩
 unfold dh
 rw [<-(Hu n B z k).fg n (by omega)]
 refine zZ ?_
 rw [yi,yK,List.reverse_replicate]
 simp
theorem AM.half {b n m:Int} (z:2<=b) (Y:1<=n) (h:AM b n m):n<=2 * m:=by
 have l0:=eE z (show 0<=n by omega)
 have I:=gC z Y
 have B:=iw z (show 0<=n by omega)
 by_cases hL:ln b n=1
 ·rw [hL,uc] at B
  have:=h.top n (fH (by omega) B) (yS _)
  omega
 ·obtain ⟨k,Z⟩:∃k,ln b n=k+2:=⟨ln b n - 2,by omega⟩
  rw [Z] at I B
  have e1:k+2 - 1=k+1:=rfl
  rw [e1] at I
  have p:=au (show 0<b by omega) (k+1)
  have p2:b<=b ^ (k+1):=by
   have:=bF (show 1<=b by omega) (show 1<=k+1 by omega)
   rw [uc] at this;omega
  generalize D:b ^ (k+1)=P at *
  have U:n<b * P:=by rw [<-D,yt,<-zI];exact B
  have q1:=Int.mul_ediv_add_emod n P
  have q2:=yz n p
  have q3:=yT n (show P≠0 by omega)
  have J:1<=n / P:=(Int.le_ediv_iff_mul_le p).mpr (by omega)
  have d2:n / P<b:=Int.ediv_lt_of_lt_mul p U
  generalize hd:n / P=d at *
  have hx:P * d=d * P:=yt _ _
  have x1:P<=d * P:=by
   have:=zy J (show 0<=P by omega);omega
  have M1:Mp b (d * P+d):=by rw [<-D];exact U7 z J d2 k
  by_cases c:d * P+d<=n
  ·have:=h.top _ M1 c
   omega
  ·by_cases d3:d=1
   ·subst d3
    have h1:=jW z (k+1)
    rw [D] at h1
    have:=h.top _ h1 (by omega)
    omega
   ·have O:Mp b ((d - 1) * P+(d - 1)):=by rw [<-D];exact U7 z (by omega) (by omega) k
    have e2:(d - 1) * P=d * P - P:=by rw [Int.sub_mul,xm]
    rw [e2] at O
    have x2:2 * P<=d * P:=zy (by omega) (by omega)
    have:=h.top _ O (by omega)
    omega
theorem AM.one {b n m:Int} (B:2<=b) (z:1<=n) (h:AM b n m):1<=m:=h.top 1 (fH (by decide) (by omega)) z
inductive Fw (b:Int):Int->List Int->Prop
 | nil:Fw b 0 []
 | cons {n m:Int} {L:List Int}:1<=n->AM b n m->Fw b (n - m) L->Fw b n (m::L)
theorem Fw.uniq {b n:Int} {L L':List Int} (h:Fw b n L) (h':Fw b n L'):L=L':=by
 induction h generalizing L' with
 | nil=>
  cases h' with
  | nil=>rfl
  | cons h _ _=>omega
 | cons h1 h2 _ ih=>
  cases h' with
  | nil=>omega
  | cons _ g2 g3=>
   have e:=h2.uniq g2
   subst e
   rw [ih g3]
theorem Fw.len {b:Int} (B:2<=b) {n:Int} {L:List Int} (h:Fw b n L):∀k:Nat,n<2 ^ k->L.length<=k:=by
 induction h with
 | nil=>intro k _;exact yu _
 | @cons n m L h1 h2 _ ih=>
  intro k z
  cases k with
  | zero=>simp at z;omega
  | succ k=>
   have:=h2.half B h1
   rw [zI] at z
   have:=ih k (by omega)
   simp;omega
theorem Fw.all {b n:Int} (B:2<=b) {L:List Int} (h:Fw b n L):∀x∈L,1<=x/\dh b x=true/\x<=n:=by
 induction h with
 | nil=>intro x z;simp at z
 | cons h1 h2 h3 ih=>
  intro x z
  rcases zm.mp z with rfl|z
  ·exact ⟨h2.one B h1,h2.mp.2,h2.le⟩
  ·obtain ⟨a1,a2,a3⟩:=ih x z
   have:=h2.one B h1
   exact ⟨a1,a2,by omega⟩
def tw (b n:Int):List Int:=(bH b (n / 2)).filter λx=>dh b (n - x)
theorem range_getD (xs:List Int):(List.range xs.length).map (λi=>xs.getD i 0)=xs:=by
 apply List.ext_getElem?
 intro i
 rw [zN]
 by_cases h:i<xs.length
 ·rw [List.getElem?_range h,zg h]
  show some (xs.getD i 0)=some xs[i]
  rw [zw,zg h];rfl
 ·rw [List.getElem?_eq_none (by simpa using h),List.getElem?_eq_none (by omega)];rfl
theorem xW {α:Type} (t:Int->Bool) (f:Int->α) (xs:List Int):((List.range xs.length).filter (λi=>t (xs.getD i 0))).map (λi=>f (xs.getD i 0))=(xs.filter t).map f:=by
 have h:(xs.filter t).map f=(((List.range xs.length).map (λi=>xs.getD i 0)).filter t).map f:=by rw [range_getD]
 rw [h,List.filter_map,List.map_map]
 rfl
inductive Sm (b:Int):Nat->Int->Prop
 | zero:Sm b 0 0
 | add {k:Nat} {n p:Int}:Sm b k n->1<=p->dh b p=true->Sm b (k+1) (n+p)
theorem Sm.nn {b n:Int} {k:Nat} (h:Sm b k n):0<=n:=by
 induction h with
 | zero=>omega
 | add _ h1 _ ih=>omega
theorem Sm.none {b n:Int} (h:Sm b 0 n):n=0:=by cases h;rfl
theorem Sm.cut {b n:Int} {k:Nat} (h:Sm b (k+1) n):∃p,1<=p/\dh b p=true/\p<=n/\Sm b k (n - p):=by
 cases h with
 | @add _ m p h1 h2 h3=>
  have:=h1.nn
  exact ⟨p,h2,h3,by omega,by rw [Int.add_sub_cancel];exact h1⟩
theorem Hv {b:Int} (z:2<=b):∀n:Nat,Sm b n (n:Int)
 | 0=>.zero
 | n+1=>by
  have:=Sm.add (Hv z n) (show (1:Int)<=1 by decide) (pW (by decide) (by omega))
  exact this
theorem least {P:Nat->Prop}:∀n:Nat,P n->∃k,k<=n/\P k/\∀j,j<k->¬P j
 | 0,h=>⟨0,zx _,h,λj D=>absurd D (by omega)⟩
 | n+1,h=>by
  by_cases B:∃m,m<=n/\P m
  ·obtain ⟨m,I,z⟩:=B
   obtain ⟨k,h1,h2,h3⟩:=least m z
   exact ⟨k,by omega,h2,h3⟩
  ·exact ⟨n+1,zx _,h,λj D z=>B ⟨j,by omega,z⟩⟩
theorem aa4 {b n:Int} (z:2<=b) (B:0<=n):∃k,k<=n.toNat/\Sm b k n/\∀j,j<k->¬Sm b j n:=by
 have h:=Hv z n.toNat
 rw [show ((n.toNat:Nat):Int)=n by omega] at h
 exact least n.toNat h
noncomputable def nd (b n:Int):Nat:=open Classical in if h:∃k,Sm b k n/\∀j,j<k->¬Sm b j n then h.choose else 0
theorem oh {b n:Int} (D:2<=b) (B:0<=n):Sm b (nd b n) n/\(∀j,j<nd b n->¬Sm b j n):=by
 obtain ⟨k,h1,h2,h3⟩:=aa4 D B
 have z:∃k,Sm b k n/\∀j,j<k->¬Sm b j n:=⟨k,h2,h3⟩
 unfold nd
 rw [dif_pos z]
 exact z.choose_spec
theorem Fp {b n:Int} {k:Nat} (B:2<=b) (h:Sm b k n):nd b n<=k:=by
 have s:=oh B h.nn
 by_cases z:nd b n<=k
 ·exact z
 ·exact absurd h (s.2 k (by omega))
theorem xX {b:Int} (n:2<=b):nd b 0=0:=by have:=Fp n (Sm.zero (b:=b));omega
theorem Ow {b n:Int} (B:2<=b) (D:1<=n):1<=nd b n:=by
 by_cases z:1<=nd b n
 ·exact z
 ·have s:=(oh B (show 0<=n by omega)).1
  rw [show nd b n=0 by omega] at s
  have:=s.none
  omega
theorem Ox {b n:Int} (z:2<=b) (B:1<=n):nd b n<=1 ↔ dh b n=true:=by
 constructor
 ·intro h
  have p:=Ow z B
  have s:=(oh z (show 0<=n by omega)).1
  rw [show nd b n=0+1 by omega] at s
  obtain ⟨q,h1,h2,h3,h4⟩:=s.cut
  have:=h4.none
  rw [show n=q by omega];exact h2
 ·intro h
  have:=Fp z (Sm.add (Sm.zero (b:=b)) B h)
  rw [Int.zero_add] at this
  exact this
theorem aa5 {b n p:Int} (B:2<=b) (h1:1<=p) (h2:dh b p=true) (h3:p<=n):nd b n<=nd b (n - p)+1:=by
 have D:=(oh B (show 0<=n - p by omega)).1
 have z:=Sm.add D h1 h2
 rw [Int.sub_add_cancel] at z
 exact Fp B z
structure Way (b:Int) (m:Nat) (n:Int) (L:List Int):Prop where
 len:L.length=m
 sum:L.sum=n
 mem:∀x∈L,1<=x/\dh b x=true
 fall:L.Pairwise (λx y=>y<=x)
theorem U8 {b:Int}:∀{L:List Int},(∀x∈L,1<=x/\dh b x=true)->Sm b L.length L.sum
 | [],_=>.zero
 | x::r,h=>by
  have n:=h x zt
  have:=Sm.add (U8 (L:=r) λy z=>h y (zn _ z)) n.1 n.2
  rw [zG,xh,xx]
  exact this
theorem Way.sm {b n:Int} {m:Nat} {L:List Int} (h:Way b m n L):Sm b m n:=by
 have:=U8 h.mem
 rw [h.len,h.sum] at this;exact this
theorem Hw {b p:Int} (p1:1<=p) (O:dh b p=true):∀{L:List Int} {m:Nat} {n:Int},Way b m n L->∃J,Way b (m+1) (n+p) J/\∀y∈J,y=p\/y∈L
 | [],m,n,h=>by
  refine ⟨[p],⟨by have:=h.len;simp at this;simp [this],by have:=h.sum;simp at this;simp [<-this],λx I=>?_,by simp⟩,λy B=>by simp at B;exact .inl B⟩
  simp at I;subst I;exact ⟨p1,O⟩
 | x::r,m,n,h=>by
  have hf:=List.pairwise_cons.mp h.fall
  by_cases I:x<=p
  ·refine ⟨p::x::r,⟨by simp [<-h.len],by rw [xh,h.sum];omega,λy B=>?_,List.pairwise_cons.mpr ⟨λy B=>?_,h.fall⟩⟩,λy B=>?_⟩
   ·rcases zm.mp B with rfl|B
    ·exact ⟨p1,O⟩
    ·exact h.mem y B
   ·rcases zm.mp B with rfl|B
    ·exact I
    ·have:=hf.1 y B;omega
   ·rcases zm.mp B with rfl|B
    ·exact .inl rfl
    ·exact .inr B
  ·have U:Way b r.length r.sum r:=⟨rfl,rfl,λy B=>h.mem y (zn _ B),hf.2⟩
   obtain ⟨J,D,o'⟩:=Hw p1 O U
   have es:=h.sum
   rw [xh] at es
   refine ⟨x::J,⟨by rw [zG,D.len,<-h.len,zG],by rw [xh,D.sum];omega,λy B=>?_,List.pairwise_cons.mpr ⟨λy B=>?_,D.fall⟩⟩,λy B=>?_⟩
   ·rcases zm.mp B with rfl|B
    ·exact h.mem _ zt
    ·exact D.mem y B
   ·rcases o' y B with rfl|z
    ·omega
    ·exact hf.1 y z
   ·rcases zm.mp B with rfl|B
    ·exact .inr zt
    ·rcases o' y B with z|z
     ·exact .inl z
     ·exact .inr (zn _ z)
theorem Sm.way {b n:Int} {m:Nat} (h:Sm b m n):∃L,Way b m n L:=by
 induction h with
 | zero=>exact ⟨[],rfl,rfl,λx B=>by simp at B,.nil⟩
 | add _ p1 pm ih=>
  obtain ⟨L,w⟩:=ih
  obtain ⟨D,z,_⟩:=Hw p1 pm w
  exact ⟨D,z⟩
theorem Way.head {b n p:Int} {m:Nat} {L:List Int} (h:Way b (m+1) n (p::L)):Way b m (n - p) L/\1<=p/\dh b p=true/\∀y∈L,y<=p:=by
 have hf:=List.pairwise_cons.mp h.fall
 have es:=h.sum
 rw [xh] at es
 have B:=h.len
 rw [zG] at B
 exact ⟨⟨by omega,by omega,λy z=>h.mem y (zn _ z),hf.2⟩,(h.mem p zt).1,(h.mem p zt).2,hf.1⟩
theorem Way.cons {b n:Int} {m:Nat} {L:List Int} (h:Way b (m+1) n L):∃p r,L=p::r:=by
 cases L with
 | nil=>have:=h.len;simp at this
 | cons p r=>exact ⟨p,r,rfl⟩
theorem Oz {p:Int}:∀{L:List Int},(∀y∈L,y<=p)->L.sum<=p * (L.length:Int)
 | [],_=>by simp
 | x::r,h=>by
  have z:=Oz (L:=r) λy n=>h y (zn _ n)
  have B:=h x zt
  rw [xh,zG]
  have e:p * ((r.length+1:Nat):Int)=p * (r.length:Int)+p:=by push_cast;rw [Int.mul_add,Int.mul_one]
  rw [e];omega
inductive Gt (b:Int):Nat->Int->List Int->Prop
 | nil:Gt b 0 0 []
 | cons {m:Nat} {n p:Int} {L:List Int}:1<=p->dh b p=true->Gt b m (n - p) L->(∀q,p<q->dh b q=true->¬Sm b m (n - q))->Gt b (m+1) n (p::L)
theorem Gt.way {b n:Int} {m:Nat} {L:List Int} (h:Gt b m n L):Way b m n L:=by
 induction h with
 | nil=>exact ⟨rfl,rfl,λx D=>by simp at D,.nil⟩
 | @cons m n p L p1 pm g no ih=>
  refine ⟨by rw [zG,ih.len],by rw [xh,ih.sum];omega,λx D=>?_,List.pairwise_cons.mpr ⟨?_,ih.fall⟩⟩
  ·rcases zm.mp D with rfl|D
   ·exact ⟨p1,pm⟩
   ·exact ih.mem x D
  ·cases m with
   | zero=>intro y B;rw [yO.mp ih.len] at B;simp at B
   | succ k=>
    obtain ⟨q,r,rfl⟩:=ih.cons
    obtain ⟨w,q1,I,J⟩:=ih.head
    have O:q<=p:=by
     by_cases z:q<=p
     ·exact z
     ·exfalso
      refine no q (by omega) I ?_
      have:=Sm.add w.sm p1 pm
      rw [show n - p - q+p=n - q by omega] at this
      exact this
    intro y B
    rcases zm.mp B with rfl|B
    ·exact O
    ·have:=J y B;omega
theorem Yr {b n p:Int} {m:Nat} (h:p * ((m+1:Nat):Int)<n) (O:∀q,p<q->q<=n->dh b q=true->¬Sm b m (n - q)):¬Sm b (m+1) n:=λs=>by
 obtain ⟨L,w⟩:=s.way
 obtain ⟨q,r,rfl⟩:=w.cons
 obtain ⟨D,q1,I,J⟩:=w.head
 have h0:=D.sm.nn
 have U:=Oz (p:=q) (L:=q::r) (λy B=>by
  rcases zm.mp B with rfl|B
  ·omega
  ·exact J y B)
 rw [w.sum,w.len] at U
 by_cases z:p<q
 ·exact O q z (by omega) I D.sm
 ·have:q * ((m+1:Nat):Int)<=p * ((m+1:Nat):Int):=zy (by omega) (by omega)
  omega
theorem OD {b n:Int} {m:Nat} (h:Sm b m n) (z:n<=0):m=0:=by
 cases m with
 | zero=>rfl
 | succ k=>
  obtain ⟨p,h1,h2,h3,h4⟩:=h.cut
  have:=h4.nn
  omega
theorem Jr {b n:Int} (B:2<=b) (O:1<=n):∃p,1<=p/\p<=n/\dh b p=true/\n - p<=p:=by
 by_cases hs:n<b
 ·exact ⟨n,O,yS _,pW (by omega) hs,by omega⟩
 have L1:=eE B (show 0<=n by omega)
 have lg:=gC B O
 have J:=iw B (show 0<=n by omega)
 obtain ⟨k,hk⟩:∃k,ln b n=k+2:=by
  refine ⟨ln b n - 2,?_⟩
  by_cases z:ln b n=1
  ·rw [z,uc] at J;omega
  ·omega
 rw [hk] at lg J
 rw [show k+2 - 1=k+1 by omega] at lg
 have Y:b ^ (k+2)=b ^ (k+1) * b:=zI _ _
 have Z:0<b ^ (k+1):=au (by omega) _
 -- the first aeh
 obtain ⟨d,r,hd,r0,r1⟩:∃d r:Int,n=d * b ^ (k+1)+r/\0<=r/\r<b ^ (k+1):=
  ⟨n / b ^ (k+1),n % b ^ (k+1),by have:=Int.mul_ediv_add_emod n (b ^ (k+1));rw [yt] at this;omega,yT _ (by omega),yz _ Z⟩
 have U:1<=d:=by
  by_cases z:1<=d
  ·exact z
  ·have:d * b ^ (k+1)<=0 * b ^ (k+1):=zy (by omega) (by omega)
   omega
 have d2:d<b:=by
  by_cases z:d<b
  ·exact z
  ·have:b * b ^ (k+1)<=d * b ^ (k+1):=zy (by omega) (by omega)
   rw [Y,yt] at J
   omega
 have bp:b<=b ^ (k+1):=by
  have:=bF (b:=b) (by omega) (show 1<=k+1 by omega)
  rwa [uc] at this
 have dd:∀e:Int,1<=e->e<b->dh b (e * b ^ (k+1)+e)=true:=λe e1 e2=>by
  have D:=Hu B e1 e2 k
  have z:=D.fg B (D.nn B)
  unfold dh
  rw [yw,<-z]
  simp
 have ge:b ^ (k+1)<=d * b ^ (k+1):=by
  have:1 * b ^ (k+1)<=d * b ^ (k+1):=zy U (by omega)
  omega
 by_cases h1:d<=r
 ·exact ⟨d * b ^ (k+1)+d,by omega,by omega,dd d U d2,by omega⟩
 by_cases h2:2<=d
 ·have e:(d - 1) * b ^ (k+1)=d * b ^ (k+1) - b ^ (k+1):=by rw [Int.sub_mul,xm]
  have ge2:2 * b ^ (k+1)<=d * b ^ (k+1):=zy h2 (by omega)
  refine ⟨(d - 1) * b ^ (k+1)+(d - 1),by omega,by omega,dd (d - 1) (by omega) (by omega),by omega⟩
 ·have d0:d=1:=by omega
  subst d0
  have I:r=0:=by omega
  subst I
  rw [xm,Int.add_zero] at hd
  refine ⟨n - 1,by omega,by omega,?_,by omega⟩
  rw [hd]
  exact (jW B (k+1)).2
theorem Fq {b:Int} (B:2<=b):∀(k:Nat) {n:Int},0<=n->n<2 ^ k->nd b n<=k
 | 0,n,h0,h=>by
  have:n=0:=by have e:(2:Int) ^ 0=1:=rfl;omega
  subst this
  rw [xX B];exact zx _
 | k+1,n,h0,h=>by
  by_cases z:n=0
  ·subst z;rw [xX B];omega
  obtain ⟨p,p1,pn,D,I⟩:=Jr B (show 1<=n by omega)
  have e:(2:Int) ^ (k+1)=2 ^ k * 2:=zI _ _
  have J:=Fq B k (n:=n - p) (by omega) (by omega)
  have:=aa5 B p1 D pn
  omega
def sg (ps:List Int) (n:Int):Nat->Int
 | 0=>cg true ps 0 n
 | K+1=>sg ps n K+cg true ps (K+1) n
theorem U9:∀(ps:List Int) (k:Nat) (n:Int),cg true ps k n<=((ps.length:Nat):Int) ^ k
 | [],k,n=>by
  rw [jt]
  cases k with
  | zero=>split<;>simp
  | succ k=>rw [zh (λz=>by have:=z.2 rfl;omega)];simp [zI]
 | p::ps,k,n=>by
  refine xR (b:=true) (p:=p) (ps:=ps) (Q:=λk n=>cg true (p::ps) k n<=(((p::ps).length:Nat):Int) ^ k) (λk n B=>?_) k n
  rw [gG]
  have h1:=U9 ps k n
  rw [zG] at B ⊢
  have D:((ps.length:Nat):Int) ^ k<=(((ps.length+1:Nat)):Int) ^ k:=by
   have:ps.length ^ k<=(ps.length+1) ^ k:=Nat.pow_le_pow_left (by omega) k
   exact_mod_cast this
  by_cases c:0<p/\p<=n/\(true=true->0<k)
  ·rw [zo c]
   have h2:=B c.1 c.2.1 c.2.2
   obtain ⟨j,rfl⟩:∃j,k=j+1:=⟨k - 1,by have:=c.2.2 rfl;omega⟩
   rw [ye] at h2
   have:ps.length ^ (j+1)+(ps.length+1) ^ j<=(ps.length+1) ^ (j+1):=by
    rw [Nat.pow_succ,Nat.pow_succ,Nat.mul_add,Nat.mul_one]
    have:ps.length ^ j * ps.length<=(ps.length+1) ^ j * ps.length:=Nat.mul_le_mul_right _ (Nat.pow_le_pow_left (by omega) j)
    omega
   have h3:((ps.length:Nat):Int) ^ (j+1)+(((ps.length+1:Nat)):Int) ^ j<=(((ps.length+1:Nat)):Int) ^ (j+1):=by exact_mod_cast this
   rw [ye]
   omega
  ·rw [zh c];omega
end M
namespace TX
open PySem Builtin Builtin.Str StrLaws
def sep:Str:=" + "
theorem cR (x:Str):x.cps.toList.length=x.length:=by simp [Str.length]
theorem qG {a b:Str} (h:a.cps.toList=b.cps.toList):a=b:=Str.ext' (Array.toList_inj.mp h)
theorem ou (a b:Str):(a++b).cps.toList=a.cps.toList++b.cps.toList:=by rw [Str.cps_append];simp
def tx (n:Int):Str:=Str.ofString (toString n)
open PySem.W.KIN NumText
theorem CG (m:Nat):(tx (m:Int)).cps.toList=(Nat.toDigits 10 m).map Char.toNat:=signs_num m
theorem Ys (m:Nat):AllDigits (tx (m:Int)).cps.toList:=by
 intro c z
 rw [CG] at z
 obtain ⟨B,n,e⟩:=zV.mp z
 have r:=PyProof.Rows.digit_range (Nat.isDigit_of_mem_toDigits (by decide) (by decide) n)
 rw [<-e]
 exact r
theorem xY:∀(k m:Nat),1<=k->m<10 ^ k->(Nat.toDigits 10 m).length<=k
 | 0,_,h,_=>by omega
 | k+1,m,_,hm=>by
  by_cases h:m<10
  ·rw [yW h];simp
  ·have n:m % 10<10:=Nat.mod_lt m (by decide)
   have t:Nat.toDigits 10 (m / 10)++Nat.toDigits 10 (m % 10)=Nat.toDigits 10 (10 * (m / 10)+m % 10):=Nat.toDigits_append_toDigits (by decide) (by omega) n
   rw [Nat.div_add_mod] at t
   have e:10 ^ (k+1)=10 ^ k * 10:=Nat.pow_succ ..
   have k1:1<=k:=by
    cases k with
    | zero=>simp at hm;omega
    | succ k=>omega
   have z:=xY k (m / 10) k1 (by omega)
   rw [<-t,zj,yW n]
   simp
   omega
theorem OJ:∀(m:Nat),1<=m->∃c r,Nat.toDigits 10 m=c::r/\c.toNat≠48:=by
 intro m
 induction m using Nat.strongRecOn with
 | _ m ih=>
  intro h1
  by_cases h:m<10
  ·rw [yW h]
   refine ⟨_,[],rfl,?_⟩
   have all:∀d:Nat,d<10->1<=d->(Nat.digitChar d).toNat≠48:=by decide
   exact all m h h1
  ·have n:m % 10<10:=Nat.mod_lt m (by decide)
   have t:Nat.toDigits 10 (m / 10)++Nat.toDigits 10 (m % 10)=Nat.toDigits 10 (10 * (m / 10)+m % 10):=Nat.toDigits_append_toDigits (by decide) (by omega) n
   rw [Nat.div_add_mod] at t
   obtain ⟨c,r,e,z⟩:=ih (m / 10) (by omega) (by omega)
   rw [<-t,e]
   exact ⟨c,_,rfl,z⟩
def CJ:Str:="0123456789"
theorem O1:∀c:Nat,48<=c/\c<=57->L2.Xq ⟨#[c]⟩ CJ=true:=by
 intro c n
 have all:∀k:Fin 10,L2.Xq ⟨#[48+k.val]⟩ CJ=true:=by decide
 have:=all ⟨c - 48,by omega⟩
 rw [show 48+(⟨c - 48,by omega⟩:Fin 10).val=c by show 48+(c - 48)=c;omega] at this
 exact this
end TX
namespace TX
open PySem Builtin Builtin.Str StrLaws
open PySem.W.KIN NumText
theorem S7:∀(k:Nat) (l:List Nat),l.length=k->(∀c∈l,48<=c/\c<=57)->(∃c r,l=c::r/\c≠48)->∃m,1<=m/\m<10 ^ k/\(Nat.toDigits 10 m).map Char.toNat=l:=by
 have O:∀d:Nat,d<10->(Nat.digitChar d).toNat=48+d:=by decide
 intro k
 induction k with
 | zero=>
  intro l n _ ⟨c,r,e,_⟩
  rw [e] at n;simp at n
 | succ k ih=>
  intro l n hd J
  have B:l≠[]:=λz=>by rw [z] at n;simp at n
  obtain ⟨i,x,rfl⟩:∃i x,l=i++[x]:=⟨l.dropLast,l.getLast B,(yD B).symm⟩
  have hx:=hd x (by simp)
  have I:i.length=k:=by simpa using n
  by_cases z:i=[]
  ·subst z
   obtain ⟨c,r,e,D⟩:=J
   have:x=c:=by simpa using yd List.head? e
   subst this
   refine ⟨x - 48,by omega,?_,?_⟩
   ·have:k=0:=by simpa using I.symm
    subst this
    omega
   ·rw [yW (by omega)]
    simp only [yb,List.map_nil,xC]
    rw [O _ (by omega),show 48+(x - 48)=x by omega]
  ·obtain ⟨m,Z,Y,U⟩:=ih i I (λc D=>hd c (by simp [D])) (by
    obtain ⟨c,r,e,D⟩:=J
    cases i with
    | nil=>exact absurd rfl z
    | cons y ys=>
     rw [List.cons_append,List.cons.injEq] at e
     exact ⟨y,ys,rfl,by rw [e.1];exact D⟩)
   refine ⟨10 * m+(x - 48),by omega,?_,?_⟩
   ·rw [Nat.pow_succ];omega
   ·have t:Nat.toDigits 10 m++Nat.toDigits 10 (x - 48)=Nat.toDigits 10 (10 * m+(x - 48)):=Nat.toDigits_append_toDigits (by decide) (by omega) (by omega)
    rw [<-t,yf,U,yW (by omega)]
    simp only [yb,List.map_nil]
    rw [O _ (by omega),show 48+(x - 48)=x by omega]
def okW (w:Str):Bool:=decide (1<=w.length) && decide (w.length<=40) && !(w.cps.toList.head? == some 48) && w.cps.toList.all λc=>decide (48<=c) && decide (c<=57)
def nm (w:Str):Option Int:=if okW w then intText? w else none
theorem Hx:∀c:Nat,c<128->¬(48<=c/\c<=57)->L2.Xq ⟨#[c]⟩ CJ=false:=by
 intro c z n
 have all:∀k:Fin 128,¬(48<=k.val/\k.val<=57)->L2.Xq ⟨#[k.val]⟩ CJ=false:=by decide
 exact all ⟨c,z⟩ n
end TX
namespace TX
open PySem Builtin Builtin.Str StrLaws
open PySem.W.KIN NumText
structure Nz (n:Int):Prop where
 dig:AllDigits (tx n).cps.toList
 S8:1<=(tx n).length
 len:(tx n).length<=50
 rd:intText? (tx n)=some n
 as:(tx n).cps.all (·<128)=true
 lg:n.natAbs.log2<1920
 hd:n=0\/∃c r,(tx n).cps.toList=c::r/\c≠48
theorem dN {n:Int} (h0:0<=n) (h2:n<10 ^ 50):Nz n:=by
 obtain ⟨m,rfl⟩:=yl h0
 have D:m<10 ^ 50:=by exact_mod_cast h2
 have hd:=Ys m
 have ne:(Nat.toDigits 10 m)≠[]:=Nat.toDigits_ne_nil
 have J:1<=(tx (m:Int)).length:=by
  rw [<-cR,CG,z9]
  exact List.length_pos_iff.mpr ne
 have I:(tx (m:Int)).length<=50:=by
  rw [<-cR,CG,z9]
  exact xY 50 m (by decide) D
 have rd:=intText_digits hd (by rw [CG];simpa using ne) (zY I (by decide))
 rw [CG,val_back] at rd
 refine ⟨hd,J,I,rd,?_,?_,?_⟩
 ·rw [<-yY,zP]
  intro c B
  have:=hd c B
  exact zZ (by omega)
 ·by_cases z:m=0
  ·subst z;decide
  ·have:m<2 ^ 1000:=xb D (by decide)
   exact zE ((Nat.log2_lt z).mpr this) (by decide)
 ·by_cases z:m=0
  ·exact .inl (by rw [z];rfl)
  ·obtain ⟨c,r,e,B⟩:=OJ m (by omega)
   exact .inr ⟨_,_,by rw [CG,e];rfl,B⟩
def wr (w:Str):Bool:=decide (1<=w.length) && decide (w.length<=41) && (decide (w.length=1) || !(w.cps.toList.head? == some 48)) && w.cps.toList.all λc=>decide (48<=c) && decide (c<=57)
theorem tx0:tx 0=("0":Str):=by decide
theorem O2 {w:Str} (h:wr w=true):∃n:Int,0<=n/\n<10 ^ 41/\w=tx n:=by
 unfold wr at h
 simp only [yy,Bool.or_eq_true,yw,zP,xv] at h
 obtain ⟨⟨⟨h1,h2⟩,h3⟩,h4⟩:=h
 cases B:w.cps.toList with
 | nil=>rw [<-cR,B] at h1;simp at h1
 | cons c r=>
  rw [B] at h3 h4
  by_cases z:c=48
  ·have I:r=[]:=by
    rcases h3 with h3|h3
    ·have:=cR w
     rw [B,h3] at this
     simpa using this
    ·rw [z] at h3;simp at h3
   refine ⟨0,by decide,by decide,qG ?_⟩
   rw [tx0,B,z,I]
   decide
  ·obtain ⟨m,O,D,J⟩:=S7 _ (c::r) rfl h4 ⟨c,r,rfl,z⟩
   rw [<-B,cR] at D
   refine ⟨(m:Int),by omega,?_,qG ?_⟩
   ·have:m<10 ^ 41:=zE D (Nat.pow_le_pow_right (by decide) h2)
    exact_mod_cast this
   ·rw [B,CG,J]
theorem U_ {n:Int} (h0:0<=n) (h2:n<10 ^ 41):wr (tx n)=true:=by
 have B:=dN h0 (xa h2 (by decide))
 obtain ⟨m,rfl⟩:=yl h0
 have D:m<10 ^ 41:=by exact_mod_cast h2
 have I:(tx (m:Int)).length<=41:=by
  rw [<-cR,CG,z9]
  exact xY 41 m (by decide) D
 unfold wr
 simp only [yy,Bool.or_eq_true,yw,zP,xv]
 refine ⟨⟨⟨B.S8,I⟩,?_⟩,B.dig⟩
 rcases B.hd with z|⟨c,r,e,J⟩
 ·rw [z];exact .inl (by decide)
 ·exact .inr (by rw [e];simpa using J)
def num (w:Str) (z:Int):Option Int:=if wr w=true then (intText? w).bind λn=>if n<=z then some n else none else none
theorem dW {w:Str} {B n:Int} (h:num w B=some n):0<=n/\n<10 ^ 41/\n<=B/\w=tx n:=by
 unfold num at h
 by_cases z:wr w=true
 ·obtain ⟨m,I,D,rfl⟩:=O2 z
  rw [zo z,(dN I (xa D (by decide))).rd] at h
  simp only [yB] at h
  by_cases y:m<=B
  ·rw [zo y] at h;cases h;exact ⟨I,D,y,rfl⟩
  ·rw [zh y] at h;cases h
 ·rw [zh z] at h;cases h
theorem ug {z n:Int} (h0:0<=n) (h1:n<10 ^ 41):num (tx n) z=if n<=z then some n else none:=by
 unfold num
 rw [zo (U_ h0 h1),(dN h0 (xa h1 (by decide))).rd]
 rfl
def BT:List (Str × List Int):=[("base",[10 ^ 40]),("figures",[10 ^ 40]),("is",[10 ^ 40]),("below",[10 ^ 40]),("above",[10 ^ 40]),("count",[10 ^ 40]),("at",[10 ^ 20]),("place",[10 ^ 40]),("few",[10 ^ 40]),("two",[10 ^ 6]),("fewest",[10 ^ 6]),("ways",[500,12]),("way",[500,12,10 ^ 40])]
def nums:List Str->List Int->Option (List Int)
 | [],[]=>some []
 | w::ws,b::bs=>(num w b).bind λn=>(nums ws bs).map (n::·)
 | _,_=>none
def qH:Str:=" "
def rowOf (w:Str):Option (Str × List Int):=match Txt.split w qH with
 | []=>none
 | f::os=>(BT.lookup f).bind λbs=>(nums os bs).map (f,·)
theorem xZ (sp w v:Str) (r:List Str):(Str.join sp (w::v::r)).cps.toList=w.cps.toList++(sp.cps.toList++(Str.join sp (v::r)).cps.toList):=by
 show (w++sp++Str.join sp (v::r)).cps.toList=_
 rw [ou,ou,xw]
theorem aa6 {sp:Str} {sr:List Nat} (n:sp.cps.toList=32::sr) {x:Str} {k:Nat} (h:At x sp x.length k):∃t,x.cps.toList.drop k=32::t:=by
 obtain ⟨h1,h2⟩:=h
 rw [subAt_eq,n,show sp.length=sr.length+1 by rw [<-cR,n];rfl] at h2
 have e:=eq_of_beq h2
 cases hd:x.cps.toList.drop k with
 | nil=>rw [hd] at e;simp at e
 | cons c t=>
  rw [hd] at e
  have:c=32:=by
   have:=yd List.head? e
   simpa using this
  exact ⟨t,by rw [this]⟩
theorem Hy {sp:Str} {sr:List Nat} (D:sp.cps.toList=32::sr) {x:Str}:∀(J:List Str),J≠[]->(∀w∈J,32 ∉ w.cps.toList)->∀(a:Nat) (n:List Nat) (f:Nat),x.cps.toList.drop a=(Str.join sp J).cps.toList->ChainG x sp x.length a n f->(∀k,f<=k->¬At x sp x.length k)->partsFrom x sp.length a n=J
 | [],h,_,_,_,_,_,_,_=>absurd rfl h
 | [w],_,hw,a,n,f,hd,hc,hf=>by
  have hd':x.cps.toList.drop a=w.cps.toList:=hd
  cases n with
  | nil=>
   show [strSub x a x.length]=[w]
   congr 1
   refine qG ?_
   rw [strSub_toList,hd',List.take_of_length_le]
   rw [<-hd',yA,cR]
   exact zx _
  | cons c r=>
   exfalso
   obtain ⟨h1,h2,_,_⟩:=hc
   obtain ⟨t,B⟩:=aa6 D h2
   refine hw w zt ?_
   rw [<-hd']
   have:x.cps.toList.drop c=(x.cps.toList.drop a).drop (c - a):=by rw [List.drop_drop];congr 1;omega
   rw [this] at B
   exact List.mem_of_mem_drop (by rw [B];exact zt)
 | w::v::r,_,hw,a,n,f,hd,hc,hf=>by
  rw [xZ,D] at hd
  have dp:x.cps.toList.drop (a+w.length)=(32::sr)++(Str.join sp (v::r)).cps.toList:=by
   rw [<-List.drop_drop,hd,List.drop_left' (cR w)]
  have sn:sp.length=sr.length+1:=by rw [<-cR,D];rfl
  have ln:a+w.length+(sr.length+1)<=x.length:=by
   have h1:=yd List.length dp
   rw [yA,cR,zj] at h1
   simp only [zG] at h1
   omega
  have I:At x sp x.length (a+w.length):=by
   refine ⟨by rw [sn];exact ln,?_⟩
   rw [subAt_eq,D,sn,dp,List.take_left' (by simp)]
   exact beq_self_eq_true _
  cases n with
  | nil=>
   have e:f=a:=hc
   exact absurd I (hf _ (by omega))
  | cons c rc=>
   obtain ⟨h1,h2,h3,h4⟩:=hc
   have ec:c=a+w.length:=by
    by_cases z:c<a+w.length
    ·exfalso
     obtain ⟨t,B⟩:=aa6 D h2
     refine hw w zt ?_
     have e1:x.cps.toList.drop c=(x.cps.toList.drop a).drop (c - a):=by rw [List.drop_drop];congr 1;omega
     rw [e1,hd,List.drop_append_of_le_length (by rw [cR];omega)] at B
     have Y:w.cps.toList.drop (c - a)≠[]:=λO=>by
      have:=yd List.length O
      rw [yA,cR] at this
      simp at this
      omega
     cases U:w.cps.toList.drop (c - a) with
     | nil=>exact absurd U Y
     | cons y ys=>
      rw [U] at B
      have:y=32:=by
       have:=yd List.head? B
       simpa using this
      subst this
      exact List.mem_of_mem_drop (by rw [U];exact zt)
    ·by_cases O:a+w.length<c
     ·exact absurd I (h3 _ (by omega) O)
     ·omega
   subst ec
   show strSub x a (a+w.length)::partsFrom x sp.length (a+w.length+sp.length) rc=w::v::r
   congr 1
   ·refine qG ?_
    rw [strSub_toList,hd,Nat.add_sub_cancel_left,<-cR w,List.take_left]
   ·refine Hy D (v::r) (by simp) (λu Z=>hw u (zn _ Z)) _ rc f ?_ h4 hf
    rw [<-List.drop_drop,dp,sn,List.drop_left' (by simp)]
theorem Yt {sp:Str} (n:Builtin.Str.strKind sp=1) (x:Str):¬Builtin.Str.strKind x<Builtin.Str.strKind sp:=by
 have:=n
 rw [this]
 unfold Builtin.Str.strKind
 split
 ·omega
 ·split<;>omega
theorem S9 {sp:Str} {sr:List Nat} (B:sp.cps.toList=32::sr) (I:Builtin.Str.strKind sp=1) {ws:List Str} (h:ws≠[]) (D:∀w∈ws,32 ∉ w.cps.toList):Txt.split (Str.join sp ws) sp=ws:=by
 have one:∀w,ws=[w]->[Str.join sp ws]=ws:=λw e=>by subst e;rfl
 unfold Txt.split
 by_cases h1:(Str.join sp ws).length<sp.length
 ·rw [zo (by simp [h1])]
  match ws,h with
  | [w],_=>rfl
  | w::v::r,_=>
   exfalso
   have:=yd List.length (xZ sp w v r)
   rw [cR,zj,zj,cR sp] at this
   omega
 ·rw [zh (by simp [h1,Yt I])]
  obtain ⟨f,J,hf⟩:=occ_tight (Str.join sp ws) sp (by rw [<-cR,B];simp)
  have n:=Hy B ws h D 0 _ f (by rw [List.drop_zero]) J hf
  split
  ·rename_i he
   rw [List.isEmpty_iff.mp he] at n
   have z:[strSub (Str.join sp ws) 0 (Str.join sp ws).length]=ws:=n
   rw [sub_whole] at z
   exact z
  ·rw [partsBetween_eq];exact n
theorem split1 {ws:List Str} (h:ws≠[]) (n:∀w∈ws,32 ∉ w.cps.toList):Txt.split (Str.join qH ws) qH=ws:=S9 (sr:=[]) (by decide) (by decide) h n
theorem rO {sp:Str}:∀{ws:List Str} {w:Str},w∈ws->(∀c∈w.cps.toList,c∈(Str.join sp ws).cps.toList)/\w.length+ws.length * sp.length<=(Str.join sp ws).length+sp.length
 | [v],w,h=>by
  rw [zr] at h
  subst h
  exact ⟨λc n=>n,by show w.length+1 * sp.length<=w.length+sp.length;omega⟩
 | v::u::r,w,h=>by
  have e:(Str.join sp (v::u::r)).cps.toList=v.cps.toList++(sp.cps.toList++(Str.join sp (u::r)).cps.toList):=by
   show (v++sp++Str.join sp (u::r)).cps.toList=_
   rw [ou,ou,xw]
  have I:=yd List.length e
  rw [cR,zj,zj,cR,cR,cR] at I
  have B:∀k:Nat,(k+1+1) * sp.length=(k+1) * sp.length+sp.length:=λk=>Nat.succ_mul _ _
  rcases zm.mp h with rfl|h
  ·refine ⟨λc n=>?_,?_⟩
   ·rw [e];exact zK.mpr (.inl n)
   ·obtain ⟨_,z⟩:=rO (sp:=sp) (ws:=u::r) zt
    simp only [zG] at z ⊢
    rw [B];omega
  ·obtain ⟨D,z⟩:=rO (ws:=u::r) h
   refine ⟨λc n=>?_,?_⟩
   ·rw [e];exact zK.mpr (.inr (zK.mpr (.inr (D c n))))
   ·simp only [zG] at z ⊢
    rw [B];omega
theorem Va:qH.length=1:=by decide
theorem O3 {t w:Str} (z:t.cps.all (·<128)=true) (n:w∈Txt.split t qH):w.cps.all (·<128)=true/\w.length<=t.length:=by
 have j:=rO (sp:=qH) n
 rw [join_split,Va] at j
 have:1<=(Txt.split t qH).length:=List.length_pos_iff.mpr (List.ne_nil_of_mem n)
 refine ⟨?_,by omega⟩
 rw [<-yY,zP] at z ⊢
 exact λc B=>z c (j.1 c B)
theorem Ft (t:Str):(Txt.split t qH).length<=t.length+1:=by
 cases h:Txt.split t qH with
 | nil=>simp
 | cons w r=>
  have j:=(rO (sp:=qH) (show w∈Txt.split t qH by rw [h];exact zt)).2
  rw [join_split,Va,h] at j
  omega
theorem gY:∀{z:List Str} {bs ns:List Int},nums z bs=some ns->z.length=bs.length/\ns.length=bs.length
 | [],[],ns,h=>by cases h;exact ⟨rfl,rfl⟩
 | [],_::_,ns,h=>by cases h
 | _::_,[],ns,h=>by cases h
 | w::z,b::bs,ns,h=>by
  unfold nums at h
  cases h1:num w b with
  | none=>rw [h1] at h;cases h
  | some n=>
   cases h2:nums z bs with
   | none=>rw [h1,h2] at h;cases h
   | some r=>
    rw [h1,h2] at h;cases h
    obtain ⟨D,B⟩:=gY h2
    exact ⟨by simp [D],by simp [B]⟩
theorem iy:∀{z:List Str} {bs ns:List Int},nums z bs=some ns->∀i,i<z.length->num (z.getD i Str.empty) (bs.getD i 0)=some (ns.getD i 0)
 | [],[],ns,h,i,hi=>by simp at hi
 | [],_::_,ns,h,i,hi=>by cases h
 | _::_,[],ns,h,i,hi=>by cases h
 | w::z,b::bs,ns,h,i,hi=>by
  unfold nums at h
  cases h1:num w b with
  | none=>rw [h1] at h;cases h
  | some n=>
   cases h2:nums z bs with
   | none=>rw [h1,h2] at h;cases h
   | some r=>
    rw [h1,h2] at h;cases h
    cases i with
    | zero=>exact h1
    | succ i=>exact iy h2 i (by simpa using hi)
theorem Hz:∀{B:List Str} {bs:List Int},B.length=bs.length->nums B bs=none->∃i,i<B.length/\num (B.getD i Str.empty) (bs.getD i 0)=none/\∀j,j<i->num (B.getD j Str.empty) (bs.getD j 0)≠none
 | [],[],_,h=>by cases h
 | [],_::_,l,h=>by simp at l
 | _::_,[],l,h=>by simp at l
 | w::B,b::bs,l,h=>by
  unfold nums at h
  cases h1:num w b with
  | none=>exact ⟨0,by simp,h1,λj D=>absurd D (Nat.not_lt_zero _)⟩
  | some n=>
   cases h2:nums B bs with
   | some r=>rw [h1,h2] at h;cases h
   | none=>
    obtain ⟨i,O,J,I⟩:=Hz (by simpa using l) h2
    refine ⟨i+1,by simpa using O,J,λj D=>?_⟩
    cases j with
    | zero=>intro z;have z:num w b=none:=z;rw [h1] at z;cases z
    | succ j=>exact I j (by omega)
inductive Row:Str->List Int->Prop
 | uh {n:Int}:0<=n->n<=10 ^ 40->Row "base" [n]
 | oA {n:Int}:0<=n->n<=10 ^ 40->Row "figures" [n]
 | is_ {n:Int}:0<=n->n<=10 ^ 40->Row "is" [n]
 | x_ {n:Int}:0<=n->n<=10 ^ 40->Row "below" [n]
 | y_ {n:Int}:0<=n->n<=10 ^ 40->Row "above" [n]
 | z_ {n:Int}:0<=n->n<=10 ^ 40->Row "count" [n]
 | at_ {n:Int}:0<=n->n<=10 ^ 20->Row "at" [n]
 | jY {n:Int}:0<=n->n<=10 ^ 40->Row "place" [n]
 | S_ {n:Int}:0<=n->n<=10 ^ 40->Row "few" [n]
 | two_ {n:Int}:0<=n->n<=10 ^ 6->Row "two" [n]
 | rP {n:Int}:0<=n->n<=10 ^ 6->Row "fewest" [n]
 | HB {n:Int} {k:Nat}:0<=n->n<=500->k<=12->Row "ways" [n,k]
 | CK {n pl:Int} {k:Nat}:0<=n->n<=500->k<=12->0<=pl->pl<=10 ^ 40->Row "way" [n,k,pl]
theorem jZ {ws:List Str} {B:Int} {ns:List Int} (h:nums ws [B]=some ns):∃n,ns=[n]/\0<=n/\n<=B/\ws=[tx n]:=by
 obtain ⟨z,I⟩:=gY h
 have a:=iy h 0 (by rw [z];simp)
 match ws,ns,z,I with
 | [w],[n],_,_=>
  obtain ⟨D,_,n2,e⟩:=dW a
  exact ⟨n,rfl,D,n2,by rw [show w=tx n from e]⟩
theorem Aa {w f:Str} {ns:List Int} (h:rowOf w=some (f,ns)):Row f ns:=by
 unfold rowOf at h
 split at h
 ·cases h
 ·rename_i g os hs
  cases B:BT.lookup g with
  | none=>rw [B] at h;cases h
  | some bs=>
   rw [B] at h
   simp only [yB] at h
   cases I:nums os bs with
   | none=>rw [I] at h;cases h
   | some ms=>
    rw [I] at h
    cases (h)
    have one:∀{x:Str} {v:List Int} {r:List (Str × List Int)},List.lookup f ((x,v)::r)=some bs->(f=x/\v=bs)\/List.lookup f r=some bs:=λ{x v r} h=>by
     rw [zT] at h
     by_cases z:f=x
     ·subst z;simp at h;exact .inl ⟨rfl,h⟩
     ·have:(f == x)=false:=by simpa using z
      rw [this] at h;exact .inr h
    unfold BT at B
    rcases one B with ⟨rfl,rfl⟩|B
    ·obtain ⟨n,rfl,D,n1,_⟩:=jZ I
     exact .uh D n1
    rcases one B with ⟨rfl,rfl⟩|B
    ·obtain ⟨n,rfl,D,n1,_⟩:=jZ I
     exact .oA D n1
    rcases one B with ⟨rfl,rfl⟩|B
    ·obtain ⟨n,rfl,D,n1,_⟩:=jZ I
     exact .is_ D n1
    rcases one B with ⟨rfl,rfl⟩|B
    ·obtain ⟨n,rfl,D,n1,_⟩:=jZ I
     exact .x_ D n1
    rcases one B with ⟨rfl,rfl⟩|B
    ·obtain ⟨n,rfl,D,n1,_⟩:=jZ I
     exact .y_ D n1
    rcases one B with ⟨rfl,rfl⟩|B
    ·obtain ⟨n,rfl,D,n1,_⟩:=jZ I
     exact .z_ D n1
    rcases one B with ⟨rfl,rfl⟩|B
    ·obtain ⟨n,rfl,D,n1,_⟩:=jZ I
     exact .at_ D n1
    rcases one B with ⟨rfl,rfl⟩|B
    ·obtain ⟨n,rfl,D,n1,_⟩:=jZ I
     exact .jY D n1
    rcases one B with ⟨rfl,rfl⟩|B
    ·obtain ⟨n,rfl,D,n1,_⟩:=jZ I
     exact .S_ D n1
    rcases one B with ⟨rfl,rfl⟩|B
    ·obtain ⟨n,rfl,D,n1,_⟩:=jZ I
     exact .two_ D n1
    rcases one B with ⟨rfl,rfl⟩|B
    ·obtain ⟨n,rfl,D,n1,_⟩:=jZ I
     exact .rP D n1
    rcases one B with ⟨rfl,rfl⟩|B
    ·obtain ⟨J,O⟩:=gY I
     match ns,O with
     | [n,k],_=>
      obtain ⟨D,_,n1,_⟩:=dW (iy I 0 (by rw [J];simp))
      obtain ⟨k0,_,k1,_⟩:=dW (iy I 1 (by rw [J];simp))
      have k0:0<=k:=k0
      have k1:k<=12:=k1
      obtain ⟨m,rfl⟩:=yl k0
      exact .HB D n1 (by omega)
    rcases one B with ⟨rfl,rfl⟩|B
    ·obtain ⟨J,O⟩:=gY I
     match ns,O with
     | [n,k,pl],_=>
      obtain ⟨D,_,n1,_⟩:=dW (iy I 0 (by rw [J];simp))
      obtain ⟨k0,_,k1,_⟩:=dW (iy I 1 (by rw [J];simp))
      obtain ⟨p0,_,p1,_⟩:=dW (iy I 2 (by rw [J];simp))
      have k0:0<=k:=k0
      have k1:k<=12:=k1
      obtain ⟨m,rfl⟩:=yl k0
      exact .CK D n1 (by omega) p0 p1
    cases B
end TX
local macro_rules | `(tactic| simp only [L2.QL]) => `(tactic| first | exact Or.inl rfl | exact Or.inr rfl)
def L2.qD:="~qN ~qC ~q2 ~Lj ~q1 ~gh ~Zg ~Rv ~Ed ~WD ~qOr ~WK ~Lz ~Rw ~Gy ~qIf ~qFz ~Rx ~lB ~cC ~Ry ~Rz ~qIx ~Eh ~Ei ~nSl ~WN ~WQ ~WR ~WT ~qI2 ~wI ~WX ~W0 ~RD ~LQ ~GD ~GF ~RG ~L_ ~W4 ~Ma ~GJ ~IW ~Mg ~W8 ~Ek ~l_ ~BK ~pM ~BL ~W_ ~Xa ~iqL ~tE ~Mm ~Sl.ev ~Sl.val ~Sl.mu ~Sl.put ~Rt.val ~Rt.sl ~lk ~Qj ~Bx ~toI ~Ru ~jP ~d_ ~fP ~back ~outs ~bT ~wJ ~Ms ~Mt ~Mu ~Mv ~iqV ~wQ ~MF ~MJ ~RV ~Xr ~MP ~Er ~iqS ~Es ~Et ~Xv ~Xw ~Cd ~G3 ~nOr ~X3 ~pQ ~M6 ~M7 ~XH ~Nb ~M_ ~XJ ~Ng ~Nh ~XD ~Nr ~Nu ~X_ ~Yb ~Ez ~vIf ~Sx ~Fe ~tZ ~wY ~Ff ~wZ ~N7 ~Yk ~N5 ~Yj ~Fd ~Fi ~NK ~Yd ~Ny ~NB ~Fg ~vOr List.map_cons List.map_nil List.length_cons List.length_nil List.replicate_succ List.replicate_zero List.cons_append List.nil_append List.getElem?_cons_zero List.getElem?_cons_succ List.getElem?_nil List.set_cons_zero List.set_cons_succ List.drop_succ_cons List.drop_zero"
def L2.qL:="↓~aav ↓~Xk ↓~RQ ↓~aaw ↓~aax ↓~Xl ↓~RT ↓~Xm ↓~Xn ↓~Xo ↓~aay ↓~Xp ~qN ~qC ~q2 ~Lj ~q1 ~gh ~Zg ~Rv ~Ed ~WD ~qOr ~WK ~Lz ~Rw ~Gy ~qIf ~qFz ~Rx ~lB ~cC ~Ry ~Rz ~qIx ~Eh ~Ei ~nSl ~WN ~WQ ~WR ~WT ~qI2 ~wI ~WX ~W0 ~RD ~LQ ~GD ~GF ~RG ~L_ ~W4 ~Ma ~GJ ~IW ~Mg ~W8 ~Ek ~l_ ~BK ~pM ~BL ~W_ ~Xa ~iqL ~tE ~Mm ~tr2 ~Sl.ev ~Sl.val ~Sl.mu ~Sl.put ~Rt.val ~Rt.sl ~lk ~Qj ~Bx ~toI ~Ru ~jP ~d_ ~fP ~back ~outs ~bT ~wJ ~Rq ~Wy ~Rr ~Gw ~Lq ~Gx ~Lr ~D.int.injEq ~D.bl.injEq ~D.str.injEq ~D.lst.injEq ~D.tup.injEq ~D.atom.injEq ~Ev.fz.injEq ~Ev.ow.injEq Option.some.injEq List.cons.injEq exists_eq_left exists_eq_left' exists_eq_right exists_and_left exists_const exists_eq_right' exists_false false_and and_false List.map_cons List.map_nil List.length_cons List.length_nil Nat.reduceAdd Nat.reduceSub List.replicate_succ List.replicate_zero List.cons_append List.nil_append List.append_nil List.getElem?_cons_zero List.getElem?_cons_succ List.getElem?_nil List.set_cons_zero List.set_cons_succ List.drop_succ_cons List.drop_zero Bool.not_true Bool.not_false Bool.false_eq_true if_true if_false ite_true ite_false eq_self true_and and_true decide_eq_true_eq List.nodup_nil List.nodup_cons List.not_mem_nil not_false_eq_true Option.isSome_some reduceCtorEq ~Dr ~Wx ~QD ~QC ~Gs Int.reduceToNat Int.reducePow Int.reduceLT Int.reduceLE Int.reduceNeg Nat.reduceLeDiff Int.reduceMul Int.reduceAdd Int.reduceSub Int.reduceEq Int.zero_add Int.reduceAbs Int.reduceNe Nat.reduceLT Nat.reducePow Int.cast_ofNat_Int or_true true_or Bool.not_eq_true' decide_eq_false_iff_not Bool.true_and Bool.and_true Bool.false_and Bool.and_false decide_true decide_false ~Sl.d.injEq ~Sl.bor.injEq ~Sl.own.injEq ~Rt.rd.injEq ~Rt.ro.injEq String.reduceBEq String.reduceEq String.reduceBNe Bool.or_true Bool.or_false Bool.true_or Bool.false_or ~aaq ~aar ~aas ~aat ~Xf ~Xg ite_not implies_true exists_eq exists_eq' ~adG ~adH ~adI ~adJ ~adK ~adL ~adM ~adN ~adO ~adP ~adQ ~adR ~adS and_assoc ~WL ~D.Aj.injEq ~Ms ~Mt ~Mu ~Mv ~iqV ~wQ ~MF ~MJ ~RV ~Xr ~MP ~Er ~iqS ~Es ~Et ~Xv ~Xw ~gR.goes ~Cd ~G3 ~tyD ~xfD ~nOr ~X3 ~pQ ~M6 ~M7 ~XH ~Nb ~M_ ~XJ ~Ng ~Nh ~XS ~XX ~V.ref.injEq ~V.int.injEq ~HO.lst.injEq ~XD ~jC.of ~Nr ~Nu ~X_ ~Yb ~kOf ~aaR ~R8 ~Ez ~vIf ~Sx ~Fe ~tZ ~wY ~Ff ~wZ ~N7 ~Yk ~N5 ~Yj ~Fd ~Fi ~NK ~Yd ~Ny ~NB ~Fg ~vOr"
def L2.qS(s:String):List String:=(s.splitOn " ").map (·.replace "~" "_root_.L2.")
local macro_rules | `(tactic| simp only [Hs]) => `(tactic| exact ⟨rfl, rfl, rfl, by decide +kernel, rfl, by decide +kernel, by decide +kernel⟩)
local macro_rules | `(tactic| simp only [Ho]) => `(tactic| (first | refine _root_.L2.hA rfl ?_ | refine _root_.L2.hN ?_ | refine _root_.L2.hA (_root_.L2.nbv rfl) ?_ | refine _root_.L2.hE (_root_.L2.hA rfl ?_) | refine _root_.L2.hE (_root_.L2.hE (_root_.L2.hA rfl ?_)) | refine _root_.L2.hE (_root_.L2.hE (_root_.L2.hA rfl (_root_.L2.hA rfl ?_))) | refine _root_.L2.hC1 rfl ?_ | refine _root_.L2.hC0 rfl ?_ | refine _root_.L2.hL rfl ?_ | refine _root_.L2.hX rfl ?_ | refine _root_.L2.hT ?_ | refine _root_.L2.hD rfl ?_ | refine _root_.L2.hQ (_root_.L2.jA.int _ _) ?_ | refine _root_.L2.hQ (_root_.L2.jA.str _ _) ?_ | refine _root_.L2.hE (_root_.L2.hE (_root_.L2.hE (_root_.L2.hA rfl ?_))) | refine _root_.L2.hE (_root_.L2.hE (_root_.L2.hE (_root_.L2.hA rfl (_root_.L2.hA rfl ?_)))) | refine _root_.L2.hE (_root_.L2.hE (_root_.L2.hE (_root_.L2.hA rfl (_root_.L2.hA rfl (_root_.L2.hA rfl ?_))))) | refine _root_.L2.hE (_root_.L2.hE (_root_.L2.hE (_root_.L2.hE (_root_.L2.hA rfl ?_)))) | refine _root_.L2.hE (_root_.L2.hE (_root_.L2.hE (_root_.L2.hE (_root_.L2.hA rfl (_root_.L2.hA rfl (_root_.L2.hA rfl ?_))))))))
local macro_rules | `(tactic| simp only [Hh]) => `(tactic| (repeat simp only [Ho]))
local macro_rules | `(tactic| simp only [Hg]) => `(tactic| (repeat ((fail_if_success (with_reducible first | refine _root_.L2.hG ?_ | refine _root_.L2.hV ?_)); simp only [Ho])))
local macro_rules | `(tactic| simp only [Q, $xs,*]) => do { let ds ← (L2.qS L2.qD).toArray.mapM fun x => if x.startsWith "↓" then `(Lean.Parser.Tactic.simpLemma| ↓ $(Lean.mkIdent (x.drop 1).toName):ident) else `(Lean.Parser.Tactic.simpLemma| $(Lean.mkIdent x.toName):ident); let ys ← (L2.qS (L2.qL ++ " ~uM ~wW")).toArray.mapM fun x => if x.startsWith "↓" then `(Lean.Parser.Tactic.simpLemma| ↓ $(Lean.mkIdent (x.drop 1).toName):ident) else `(Lean.Parser.Tactic.simpLemma| $(Lean.mkIdent x.toName):ident); `(tactic| (simp only [Hg]; (try dsimp only [$ds,*]); (try simp only [$xs,*, $ys,*]))) }
local macro_rules | `(tactic| simp only [Q]) => do { let ds ← (L2.qS L2.qD).toArray.mapM fun x => if x.startsWith "↓" then `(Lean.Parser.Tactic.simpLemma| ↓ $(Lean.mkIdent (x.drop 1).toName):ident) else `(Lean.Parser.Tactic.simpLemma| $(Lean.mkIdent x.toName):ident); let ys ← (L2.qS (L2.qL ++ " ~uM ~wW")).toArray.mapM fun x => if x.startsWith "↓" then `(Lean.Parser.Tactic.simpLemma| ↓ $(Lean.mkIdent (x.drop 1).toName):ident) else `(Lean.Parser.Tactic.simpLemma| $(Lean.mkIdent x.toName):ident); `(tactic| (simp only [Hg]; (try dsimp only [$ds,*]); (try simp only [$ys,*]))) }
local macro_rules | `(tactic| simp only [R, $xs,*]) => do { let ds ← (L2.qS L2.qD).toArray.mapM fun x => if x.startsWith "↓" then `(Lean.Parser.Tactic.simpLemma| ↓ $(Lean.mkIdent (x.drop 1).toName):ident) else `(Lean.Parser.Tactic.simpLemma| $(Lean.mkIdent x.toName):ident); let ys ← (L2.qS (L2.qL)).toArray.mapM fun x => if x.startsWith "↓" then `(Lean.Parser.Tactic.simpLemma| ↓ $(Lean.mkIdent (x.drop 1).toName):ident) else `(Lean.Parser.Tactic.simpLemma| $(Lean.mkIdent x.toName):ident); `(tactic| (simp only [Hg]; (try dsimp only [$ds,*]); (try simp only [$xs,*, $ys,*]))) }
local macro_rules | `(tactic| simp only [R]) => do { let ds ← (L2.qS L2.qD).toArray.mapM fun x => if x.startsWith "↓" then `(Lean.Parser.Tactic.simpLemma| ↓ $(Lean.mkIdent (x.drop 1).toName):ident) else `(Lean.Parser.Tactic.simpLemma| $(Lean.mkIdent x.toName):ident); let ys ← (L2.qS (L2.qL)).toArray.mapM fun x => if x.startsWith "↓" then `(Lean.Parser.Tactic.simpLemma| ↓ $(Lean.mkIdent (x.drop 1).toName):ident) else `(Lean.Parser.Tactic.simpLemma| $(Lean.mkIdent x.toName):ident); `(tactic| (simp only [Hg]; (try dsimp only [$ds,*]); (try simp only [$ys,*]))) }
local macro_rules | `(tactic| simp only [S, $xs,*]) => do { let ds ← (L2.qS L2.qD).toArray.mapM fun x => if x.startsWith "↓" then `(Lean.Parser.Tactic.simpLemma| ↓ $(Lean.mkIdent (x.drop 1).toName):ident) else `(Lean.Parser.Tactic.simpLemma| $(Lean.mkIdent x.toName):ident); let ys ← (L2.qS (L2.qL)).toArray.mapM fun x => if x.startsWith "↓" then `(Lean.Parser.Tactic.simpLemma| ↓ $(Lean.mkIdent (x.drop 1).toName):ident) else `(Lean.Parser.Tactic.simpLemma| $(Lean.mkIdent x.toName):ident); `(tactic| ((try dsimp only [$ds,*]); (try simp only [$xs,*, $ys,*]))) }
local macro_rules | `(tactic| simp only [S]) => do { let ds ← (L2.qS L2.qD).toArray.mapM fun x => if x.startsWith "↓" then `(Lean.Parser.Tactic.simpLemma| ↓ $(Lean.mkIdent (x.drop 1).toName):ident) else `(Lean.Parser.Tactic.simpLemma| $(Lean.mkIdent x.toName):ident); let ys ← (L2.qS (L2.qL)).toArray.mapM fun x => if x.startsWith "↓" then `(Lean.Parser.Tactic.simpLemma| ↓ $(Lean.mkIdent (x.drop 1).toName):ident) else `(Lean.Parser.Tactic.simpLemma| $(Lean.mkIdent x.toName):ident); `(tactic| ((try dsimp only [$ds,*]); (try simp only [$ys,*]))) }
namespace K48
open PySem L2
def top (i:Nat):Stmt:=PySem.Challenge.pw_mirrorsums_k48_words_refused.main.body.getD i (.Pass ⟨0,0,0,0⟩)
def Vb:Stmt->Nat->Stmt
 | .ClassDef (body:=b) ..,j=>b.getD j (.Pass ⟨0,0,0,0⟩)
 | s,_=>s
structure Txt (mg:Str->Option Value):Prop where
 bC:mg "isinstance"=none
 um:mg "int"=none
 Yu:mg "bool"=none
 Yv:mg "list"=none
 fL:mg "len"=none
 iz:mg "range"=none
 aa7:mg "min"=none
 CN:mg "divmod"=none
 mG:mg "reversed"=none
 Vc:mg "zip"=none
 iB:mg "str"=none
 aa8:mg "all"=none
 Ab:mg "ValueError"=none
 dJ:∃t,mg "LEAST_BASE"=some (.int 2 t)
 cD:∃t,mg "GREATEST_BASE"=some (.int 36 t)
 ju:∃t,mg "FIRST_BASE"=some (.int 10 t)
 cT:∃t,mg "MOST_FIGURES"=some (.int 41 t)
 fQ:∃t,mg "FIGURES_OF_TEN"=some (.str "0123456789" t)
 iJ:∃t,mg "WAY_OF_NONE"=some (.str "0" t)
set_option genInjectivity false in
structure XA where
 eO:Addr
 bG:Addr
 dX:Addr
 aR:Addr
 bh:Addr
 lO:Addr
 iK:Addr
 aG:Addr
structure XT (K:PySem.W.Frag) (mg:Str->Option Value) (cs:XA):Prop where
 lQ:oZ K mg "MirrorError" cs.eO
 CP:oZ K mg "NoBase" cs.bG
 Fv:oZ K mg "NoNumber" cs.dX
 uo:oZ K mg "NoMirror" cs.aR
 pY:oZ K mg "NoPlace" cs.bh
 Tc:oZ K mg "NoWay" cs.lO
 O4:oZ K mg "NoText" cs.iK
 eU:oZ K mg "NoCommand" cs.aG
 CQ:XF K cs.aG
 O5:XF K cs.bG
 Fx:XF K cs.aR
 Js:XF K cs.bh
 CT:PySem.W.subIn K (.ref cs.aG) (.ref cs.eO)=some true
 O6:PySem.W.subIn K (.ref cs.bG) (.ref cs.eO)=some true
 Fy:PySem.W.subIn K (.ref cs.aR) (.ref cs.eO)=some true
 Jt:PySem.W.subIn K (.ref cs.bh) (.ref cs.eO)=some true
 CV:PySem.W.kitOne K (.ref cs.aG) (.type "ValueError")=some true
 O7:PySem.W.kitOne K (.ref cs.bG) (.type "ValueError")=some true
 Fz:PySem.W.kitOne K (.ref cs.aR) (.type "ValueError")=some true
 Ju:PySem.W.kitOne K (.ref cs.bh) (.type "ValueError")=some true
 v_N:PySem.W.kitOne K (.type "NoneType") (.type "ValueError")=some false
 Vd:PySem.W.kitOne K (.type "NoneType") (.ref cs.aG)=some false
 aa9:PySem.W.kitOne K (.type "NoneType") (.ref cs.bG)=some false
 Yw:PySem.W.kitOne K (.type "NoneType") (.ref cs.aR)=some false
 Zj:PySem.W.kitOne K (.type "NoneType") (.ref cs.bh)=some false
 Yx:PySem.W.kitOne K (.type "NoneType") (.ref cs.dX)=some false
 aba:PySem.W.kitOne K (.type "NoneType") (.ref cs.iK)=some false
 acq:PySem.W.kitOne K (.type "NoneType") (.ref cs.lO)=some false
 jE:PySem.W.kitOne K (.ref cs.aG) (.ref cs.aG)=some true
 mH:PySem.W.kitOne K (.ref cs.aG) (.ref cs.bG)=some false
 j4:PySem.W.kitOne K (.ref cs.aG) (.ref cs.aR)=some false
 lD:PySem.W.kitOne K (.ref cs.aG) (.ref cs.bh)=some false
 j6:PySem.W.kitOne K (.ref cs.aG) (.ref cs.dX)=some false
 mJ:PySem.W.kitOne K (.ref cs.aG) (.ref cs.iK)=some false
 oE:PySem.W.kitOne K (.ref cs.aG) (.ref cs.lO)=some false
 mK:PySem.W.kitOne K (.ref cs.bG) (.ref cs.aG)=some false
 qQ:PySem.W.kitOne K (.ref cs.bG) (.ref cs.bG)=some true
 oF:PySem.W.kitOne K (.ref cs.bG) (.ref cs.aR)=some false
 pZ:PySem.W.kitOne K (.ref cs.bG) (.ref cs.bh)=some false
 oG:PySem.W.kitOne K (.ref cs.bG) (.ref cs.dX)=some false
 qR:PySem.W.kitOne K (.ref cs.bG) (.ref cs.iK)=some false
 uq:PySem.W.kitOne K (.ref cs.bG) (.ref cs.lO)=some false
 j7:PySem.W.kitOne K (.ref cs.aR) (.ref cs.aG)=some false
 oH:PySem.W.kitOne K (.ref cs.aR) (.ref cs.bG)=some false
 lE:PySem.W.kitOne K (.ref cs.aR) (.ref cs.aR)=some true
 mL:PySem.W.kitOne K (.ref cs.aR) (.ref cs.bh)=some false
 lF:PySem.W.kitOne K (.ref cs.aR) (.ref cs.dX)=some false
 oJ:PySem.W.kitOne K (.ref cs.aR) (.ref cs.iK)=some false
 p8:PySem.W.kitOne K (.ref cs.aR) (.ref cs.lO)=some false
 lG:PySem.W.kitOne K (.ref cs.bh) (.ref cs.aG)=some false
 p_:PySem.W.kitOne K (.ref cs.bh) (.ref cs.bG)=some false
 mO:PySem.W.kitOne K (.ref cs.bh) (.ref cs.aR)=some false
 oK:PySem.W.kitOne K (.ref cs.bh) (.ref cs.bh)=some true
 mQ:PySem.W.kitOne K (.ref cs.bh) (.ref cs.dX)=some false
 qb:PySem.W.kitOne K (.ref cs.bh) (.ref cs.iK)=some false
 qT:PySem.W.kitOne K (.ref cs.bh) (.ref cs.lO)=some false
theorem CW (ds:List D):∀(i:Nat) (s:Sl),(ds.map Sl.d)[i]? = some s->∃d,s=.d d:=λi s h=>by
 rw [zN] at h
 cases e:ds[i]? with
 | none=>rw [e] at h;cases h
 | some d=>rw [e] at h;cases h;exact ⟨d,rfl⟩
abbrev s_y:Stmt:=top 38
theorem abb:ao ["word","most","sign"] ["word","most"] (aa s_y):=by simp only [Hs]
abbrev s_j:Stmt:=top 68
theorem Td:ao ["word","bound","number"] ["word","bound"] (aa s_j):=by simp only [Hs]
abbrev s_e:Stmt:=top 69
theorem CZ:ao ["words","first","others","bounds"] ["words"] (aa s_e):=by simp only [Hs]
abbrev s_s:Stmt:=top 12
theorem aei:ao ["thing"] ["thing"] (aa s_s):=by simp only [Hs]
abbrev s_a:Stmt:=top 13
theorem abd:ao ["thing"] ["thing"] (aa s_a):=by simp only [Hs]
abbrev s_t:Stmt:=top 14
theorem O8:ao ["number","base","row","left","figure"] ["number","base"] (aa s_t):=by simp only [Hs]
abbrev s_B:Stmt:=top 55
theorem aek:ao ["base","numbers"] ["base","numbers"] (aa s_B):=by simp only [Hs]
abbrev s_i:Stmt:=top 15
theorem abe:ao ["thing","base","row"] ["thing","base"] (aa s_i):=by simp only [Hs]
abbrev s_Z:Stmt:=top 56
theorem ael:ao ["base","numbers"] ["base","numbers"] (aa s_Z):=by simp only [Hs]
abbrev s_J:Stmt:=top 17
theorem Te:ao ["base","many","product","step"] ["base","many"] (aa s_J):=by simp only [Hs]
abbrev s_P:Stmt:=top 19
theorem aem:ao ["number","length","base"] ["number","length","base"] (aa s_P):=by simp only [Hs]
abbrev s_l:Stmt:=top 20
theorem Jv:ao ["front","length","base","mirrored","left","figure"] ["front","length","base"] (aa s_l):=by simp only [Hs]
abbrev s_W:Stmt:=top 21
theorem Yy:ao ["number","base","length","front"] ["number","base"] (aa s_W):=by simp only [Hs]
abbrev s_n:Stmt:=top 18
theorem aen:ao ["length","base"] ["length","base"] (aa s_n):=by simp only [Hs]
abbrev s_F:Stmt:=top 23
theorem Tf:ao ["number","base","length","front","mirrored"] ["number","base"] (aa s_F):=by simp only [Hs]
abbrev s_L:Stmt:=top 57
theorem aeo:ao ["base","numbers"] ["base","numbers"] (aa s_L):=by simp only [Hs]
abbrev s_O:Stmt:=top 24
theorem Tg:ao ["number","base","length","front","mirrored"] ["number","base"] (aa s_O):=by simp only [Hs]
abbrev s_M:Stmt:=top 58
theorem aep:ao ["base","numbers"] ["base","numbers"] (aa s_M):=by simp only [Hs]
abbrev s_r:Stmt:=top 22
theorem aeq:ao ["length","base"] ["length","base"] (aa s_r):=by simp only [Hs]
abbrev s_w:Stmt:=top 27
theorem Th:ao ["thing","base","length","behind"] ["thing","base"] (aa s_w):=by simp only [Hs]
abbrev abf:Stmt:=top 25
theorem abg:ao ["number","base"] ["number","base"] (aa abf):=by simp only [Hs]
abbrev s_N:Stmt:=top 59
theorem aer:ao ["base","numbers"] ["base","numbers"] (aa s_N):=by simp only [Hs]
abbrev s_D:Stmt:=top 26
theorem Ti:ao ["place","base","length","behind"] ["place","base"] (aa s_D):=by simp only [Hs]
abbrev abh:Stmt:=top 60
theorem abi:ao ["base","numbers"] ["base","numbers"] (aa abh):=by simp only [Hs]
abbrev s_u:Stmt:=top 61
theorem abj:ao ["base","numbers"] ["base","numbers"] (aa s_u):=by simp only [Hs]
abbrev s_A:Stmt:=top 39
theorem aet:ao ["way"] ["way"] (aa s_A):=by simp only [Hs]
abbrev abk:Stmt:=top 30
theorem C_:ao ["number","base","told","left","greatest"] ["number","base"] (aa abk):=by simp only [Hs]
abbrev s_U:Stmt:=top 62
theorem aeu:ao ["base","numbers"] ["base","numbers"] (aa s_U):=by simp only [Hs]
abbrev s_d:Stmt:=top 28
theorem Jw:ao ["bound","base","told","length","least","front","mirrored"] ["bound","base"] (aa s_d):=by simp only [Hs]
abbrev Yz:Stmt:=top 41
theorem abl:ao ["number","base"] ["number","base"] (aa Yz):=by simp only [Hs]
abbrev s_K:Stmt:=top 42
theorem aev:ao ["number","base"] ["number","base"] (aa s_K):=by simp only [Hs]
abbrev s_V:Stmt:=top 63
theorem aew:ao ["base","numbers"] ["base","numbers"] (aa s_V):=by simp only [Hs]
abbrev s_z:Stmt:=top 32
theorem YB:ao ["number","parts","known","lesser","greater"] ["number","parts","known"] (aa s_z):=by simp only [Hs]
abbrev s_o:Stmt:=top 33
theorem Tj:ao ["number","many","parts","known","part","others"] ["number","many","parts","known"] (aa s_o):=by simp only [Hs]
abbrev s_R:Stmt:=top 34
theorem FJ:ao ["number","base","parts","known","many","way"] ["number","base"] (aa s_R):=by simp only [Hs]
abbrev s_H:Stmt:=top 64
theorem aey:ao ["base","numbers"] ["base","numbers"] (aa s_H):=by simp only [Hs]
abbrev abm:Stmt:=top 44
theorem abn:ao ["part","size","number","many"] ["part","size","number","many"] (aa abm):=by simp only [Hs]
abbrev s_X:Stmt:=top 45
theorem O9:ao ["part","rows","number","many","size","row","shorter","total"] ["part","rows","number","many"] (aa s_X):=by simp only [Hs]
abbrev s_C:Stmt:=top 47
theorem YC:ao ["parts","number","many","rows","part"] ["parts","number","many"] (aa s_C):=by simp only [Hs]
abbrev s_S:Stmt:=top 49
theorem abo:ao ["number","base","many","rows"] ["number","base","many"] (aa s_S):=by simp only [Hs]
abbrev s_G:Stmt:=top 65
theorem YD:ao ["base","numbers","number","many"] ["base","numbers"] (aa s_G):=by simp only [Hs]
abbrev s_q:Stmt:=top 48
theorem aeA:ao ["part","rows","number","many"] ["part","rows","number","many"] (aa s_q):=by simp only [Hs]
abbrev s_I:Stmt:=top 46
theorem O_:ao ["part","rows","number","many","size","row","shorter","total"] ["part","rows","number","many"] (aa s_I):=by simp only [Hs]
abbrev s_x:Stmt:=top 50
theorem oM:ao ["number","base","many","place","parts","rows","way","left","ahead","part","here"] ["number","base","many","place"] (aa s_x):=by simp only [Hs]
abbrev s_p:Stmt:=top 66
theorem Dc:ao ["base","numbers","number","many","place"] ["base","numbers"] (aa s_p):=by simp only [Hs]
abbrev Pa:Stmt:=Vb (top 70) 1
theorem cU:ao ["self","words","first","numbers","answer"] ["self","words"] (aa Pa):=by simp only [Hs]
abbrev s_v:Stmt:=top 81
theorem aeC:ao ["desk"] ["desk"] (aa s_v):=by simp only [Hs]
abbrev s_f:Stmt:=top 80
theorem mR:ao ["desk","words","due","answer","kinds","other","e","dues"] ["desk","words","due"] (aa s_f):=by simp only [Hs]
abbrev s_g:Stmt:=top 82
theorem FN:ao ["desk","held","deep","k","early","thing"] ["desk"] (aa s_g):=by simp only [Hs]
abbrev s_Y:Stmt:=top 74
theorem aeE:ao ["cell","k"] ["cell","k"] (aa s_Y):=by simp only [Hs]
abbrev s_h:Stmt:=top 73
theorem Pb:ao ["deck","many","come","number"] ["deck","many"] (aa s_h):=by simp only [Hs]
abbrev s_k:Stmt:=top 75
theorem Tn:ao ["deck","some"] ["deck"] (aa s_k):=by simp only [Hs]
abbrev s_c:Stmt:=top 76
theorem lH:ao ["cell","deck","way","heads","words","odd","at","sign"] ["cell"] (aa s_c):=by simp only [Hs]
abbrev s_m:Stmt:=top 77
theorem aeG:ao ["word","most"] ["word","most"] (aa s_m):=by simp only [Hs]
abbrev s_E:Stmt:=top 78
theorem YF:ao ["desk","head","word","most","number"] ["desk","head","word"] (aa s_E):=by simp only [Hs]
abbrev s_T:Stmt:=top 79
theorem Tp:ao ["desk","words","parts","heads","place"] ["desk","words"] (aa s_T):=by simp only [Hs]
abbrev YG:Stmt:=Vb (top 70) 0
theorem abp:ao ["self"] ["self"] (aa YG):=by simp only [Hs]
abbrev Ve:Stmt:=top 83
theorem qd:ao ["script","desk","cell","words","due","early"] ["script"] (aa Ve):=by simp only [Hs]
inductive Pg (K:PySem.W.Frag):List (Str × Addr)->List (Str × List Int)->Prop
 | nil:Pg K [] []
 | cons {x:Str} {a:Addr} {ns:List Int} {T:List (Str × Addr)} {B:List (Str × List Int)}:Qn K a ns->Pg K T B->Pg K ((x,a)::T) ((x,ns)::B)
set_option genInjectivity false in
structure Zs (K:PySem.W.Frag) (mg:Str->Option Value) (cs:XA) extends Txt mg,XT K mg cs where
 gH:aM K mg "is_written" s_y ["word","most"]
 cN:aM K mg "read_number" s_j ["word","bound"]
 bZ:aM K mg "read_row" s_e ["words"]
 eF:aM K mg "is_whole" s_s ["thing"]
 az:aM K mg "check_base" s_a ["thing"]
 fU:aM K mg "figures" s_t ["number","base"]
 bJ:aM K mg "answer_figures" s_B ["base","numbers"]
 cO:aM K mg "is_mirrored" s_i ["thing","base"]
 dB:aM K mg "answer_is" s_Z ["base","numbers"]
 jw:aM K mg "power" s_J ["base","many"]
 jx:aM K mg "front_of" s_P ["number","length","base"]
 cX:aM K mg "from_front" s_l ["front","length","base"]
 oO:aM K mg "folded" s_W ["number","base"]
 dg:aM K mg "least_front" s_n ["length","base"]
 jg:aM K mg "at_most" s_F ["number","base"]
 b_:aM K mg "answer_below" s_L ["base","numbers"]
 mU:aM K mg "at_least" s_O ["number","base"]
 cj:aM K mg "answer_above" s_M ["base","numbers"]
 cV:aM K mg "many_to_length" s_r ["length","base"]
 eG:aM K mg "place_of" s_w ["thing","base"]
 qe:aM K mg "many_to" abf ["number","base"]
 cz:aM K mg "answer_count" s_N ["base","numbers"]
 iM:aM K mg "mirrored_at" s_D ["place","base"]
 dD:aM K mg "answer_at" abh ["base","numbers"]
 aW:aM K mg "answer_place" s_u ["base","numbers"]
 fV:aM K mg "show_way" s_A ["way"]
 Ac:aM K mg "a_few" abk ["number","base"]
 cY:aM K mg "answer_few" s_U ["base","numbers"]
 cP:aM K mg "mirrored_to" s_d ["bound","base"]
 ur:aM K mg "by_two" Yz ["number","base"]
 iQ:aM K mg "many_by_two" s_K ["number","base"]
 cZ:aM K mg "answer_two" s_V ["base","numbers"]
 gr:aM K mg "greatest_pair" s_z ["number","parts","known"]
 cA:aM K mg "greatest_way" s_o ["number","many","parts","known"]
 uv:aM K mg "fewest" s_R ["number","base"]
 bQ:aM K mg "answer_fewest" s_H ["base","numbers"]
 oR:aM K mg "totals" abm ["part","size","number","many"]
 uw:aM K mg "put_in" s_X ["part","rows","number","many"]
 jh:aM K mg "rows_of" s_C ["parts","number","many"]
 j8:aM K mg "many_ways" s_S ["number","base","many"]
 cQ:aM K mg "answer_ways" s_G ["base","numbers"]
 dj:aM K mg "many_with_first" s_q ["part","rows","number","many"]
 mV:aM K mg "take_out" s_I ["part","rows","number","many"]
 ji:aM K mg "way_at" s_x ["number","base","many","place"]
 bw:aM K mg "answer_way" s_p ["base","numbers"]
 eV:aM K mg "_law_shown" s_v ["desk"]
 dM:aM K mg "_law_met" s_f ["desk","words","due"]
 eH:aM K mg "_law_things_right" s_g ["desk"]
 mW:aM K mg "_law_deck" s_Y ["cell","k"]
 bR:aM K mg "_law_take" s_h ["deck","many"]
 cJ:aM K mg "_law_some_number" s_k ["deck"]
 fW:aM K mg "_law_some_words" s_c ["cell"]
 cF:aM K mg "_law_number_in" s_m ["word","most"]
 iR:aM K mg "_law_one_due" s_E ["desk","head","word"]
 qg:aM K mg "_law_due" s_T ["desk","words"]
 vL:aM K mg "law" Ve ["script"]
 aB:Addr
 tB:List (Str × Addr)
 mB:mg "BOUNDS"=some (.ref aB)
 kB:KTb K aB tB
 bB:Pg K tB TX.BT
 aA:Addr
 mA:mg "ANSWERS"=some (.ref aA)
 kA:KTb K aA [("figures",bJ.f),("is",dB.f),("below",b_.f),("above",cj.f),("count",cz.f),("at",dD.f),("place",aW.f),("few",cY.f),("two",cZ.f),("fewest",bQ.f),("ways",cQ.f),("way",bw.f)]
 cl:Addr
 mC:mg "Desk"=some (.ref cl)
 cls:vW K cl
 na:iC K cl "base"
 Ph:Addr
 say:Meth K cl "say" Ph
 Dd:FuncData
 YH:uE K "say" "Desk.say" Pa Ph Dd
 Jx:Binds K Dd ["self","words"] []
 YJ:Addr
 mkd:Mk K cl YJ
 Pj:FuncData
 aeH:uE K "__init__" "Desk.__init__" YG YJ Pj
 abq:Binds K Pj ["self"] []
abbrev Ok (P:Program) (w:World) (base:Heap) (k:Nat) {K:PySem.W.Frag} {mg:Str->Option Value} {x:Str} {st:Stmt} {ps:List Str} (d:aM K mg x st ps) (S:fK):=bV P w K mg base m7 k d.f d.fd ps (Jb K S)
abbrev Zk (P:Program) (w:World) (base:Heap) (k:Nat) {K:PySem.W.Frag} {mg:Str->Option Value} {x:Str} {st:Stmt} {ps:List Str} (d:aM K mg x st ps) (S:Ex):=bV P w K mg base m7 k d.f d.fd ps (JL K S)
abbrev OkH (P:Program) (w:World) (base:Heap) (k:Nat) {K:PySem.W.Frag} {mg:Str->Option Value} {x:Str} {st:Stmt} {ps:List Str} (d:aM K mg x st ps) (S:JK):=bV P w K mg base m7 k d.f d.fd ps (Zh K S)
abbrev YK (P:Program) (w:World) (base:Heap) (k:Nat) {K:PySem.W.Frag} {mg:Str->Option Value} {x:Str} {st:Stmt} {ps:List Str} (d:aM K mg x st ps) (S:Je):=bV P w K mg base (oY P w) k d.f d.fd ps (spX K S)
section
variable (P:Program) (w:World) {K:PySem.W.Frag} {mg:Str->Option Value} (base:Heap) {cs:XA}
theorem ak {t R:jH} {E:gR} {p:aO} (h:∀k:aO->Prop,(∀p',R E p'->k p')->t { E with nx:=k } p):uM t R E p:=h (R E) (λ_ h=>h)
def S_s:fK:=λas R=>∃x a b,as=[.d x]/\wJ "int" x=some a/\wJ "bool" x=some b/\R (.rd (.bl (a && !b))) as
theorem Pk (T:Zs K mg cs):Ok P w base 1 T.eF S_s:=by
 refine T.eF.F.gU aei (λas R h=>?_) (λB A outer s H E C as R n z h=>?_)
 ·obtain ⟨_,_,_,rfl,_⟩:=h;rfl
 have D:=z.units
 obtain ⟨x,a,b,rfl,h1,h2,q⟩:=h
 refine ⟨_,(sr (wD (pI (T:="int") n (by first|exact .inl rfl|exact .inr (.inl rfl)|exact .inr (.inr (.inl rfl))|exact .inr (.inr (.inr (.inl rfl)))|exact .inr (.inr (.inr (.inr rfl)))) rfl T.bC (a2 (qv 0) (dY (jl (v:=.ty "int") rfl T.um (by kernel_rfl) rfl) (λ_=>.atom _)))) (u_ (Eg (pI (T:="bool") n (by first|exact .inl rfl|exact .inr (.inl rfl)|exact .inr (.inr (.inl rfl))|exact .inr (.inr (.inr (.inl rfl)))|exact .inr (.inr (.inr (.inr rfl)))) rfl T.bC (a2 (qv 0) (dY (jl (v:=.ty "bool") rfl T.Yu (by kernel_rfl) rfl) (λ_=>.atom _)))))))),?_⟩;simp only [Q,and_assoc]
 cases x<;>first|(cases h1;done)|skip
 all_goals (cases h1;cases h2;simp only [Q])
 all_goals first|exact q|exact ⟨_,rfl,q⟩
def S_a:fK:=λas R=>∃b:Int,as=[.d (.int b)]/\2<=b/\b<=36/\R (.rd .non) as
theorem jF (T:Zs K mg cs):Ok P w base 2 T.az S_a:=by
 have B:=Pk P w base T
 obtain ⟨z,dJ⟩:=T.dJ
 obtain ⟨n,cD⟩:=T.cD
 refine T.az.F.gU abd (λas R h=>?_) (λJ A outer s H E C as R I D h=>?_)
 ·obtain ⟨_,rfl,_⟩:=h;rfl
 have U:=D.units
 obtain ⟨b,rfl,O,b1,q⟩:=h
 refine ⟨_,(aH (bA (PW.pt (w_or (eN (eZ (aq (aj I T.eF B D.m (a1 (qv 0)))))) (jB (eN (nO jK jK (dY (cB (v:=.int 2) rfl dJ ⟨_,rfl⟩) (λ_=>.int _)) (qv 0) (dY (cB (v:=.int 36) rfl cD ⟨_,rfl⟩) (λ_=>.int _))))))) (aH pK) aQ)),?_⟩;simp only [Q,and_assoc,S_s]
 rw [zo O,zo b1]
 exact q
def S_t:fK:=λas R=>∃n b:Int,as=[.d (.int n),.d (.int b)]/\0<=n/\n<M.uQ/\2<=b/\b<=36/\R (.ro ((M.fg b n).map D.int)) as
theorem Pn (T:Zs K mg cs):Ok P w base 3 T.fU S_t:=by
 have Y:=jF P w base T
 refine T.fU.F.gU O8 (λas R h=>?_) (λcdv A outer s H E C as R J hr h=>?_)
 ·obtain ⟨_,_,rfl,_⟩:=h;rfl
 have hu:=hr.units
 obtain ⟨n,b,rfl,Z,n1,U,b1,q⟩:=h
 refine ⟨_,(bf (pJ (aq (aj J T.az Y hr.m (a1 (qv 1)))))
    (bf (iG (i:=2) O8.nd rfl lc (bN e_))
    (bf (aD (i:=3) O8.nd rfl lc (qv 0))
    (bf (Mj zL (Lp (qv 3) (qv 1)) (bf (gB (vg rfl T.CN (a2 (qv 3) (qv 1))) (jO (n:=2) J rfl (aX (aK (i:=3) O8.nd rfl lc) (aX (aK (i:=4) O8.nd rfl lc) fc))))
    (aH (pJ (iY J (pv 2) (a1 (qv 4)))))))
    (bf (pJ (iY J (pv 2) (a1 (qv 3))))
    (bf (pJ (IV J (pv 2)))
    (aH (pL (i:=2) (pv 2))))))))),?_⟩
 simp only [Hh]
 refine ⟨U,b1,?_⟩
 simp only [Hh]
 dsimp only
 refine d8 ?_
 obtain ⟨I,O⟩:∃I:aO->Prop,I=(λp=>∃(B:List Int) (z:Int) (v:Option D),p=[some (.d (.int n)),some (.d (.int b)),some (.own (B.map D.int)),some (.d (.int z)),Option.map Sl.d v]/\M.Oe b n B z):=⟨_,rfl⟩
 refine nU I (λp=>match p[3]? with|some (some (Sl.d (D.int r)))=>r.toNat|_=>0) (by rw [O];exact ⟨[],n,none,rfl,M.Oe.start U Z⟩) ?_
 intro p hp
 rw [O] at hp
 obtain ⟨B,z,v,rfl,g⟩:=hp
 have len:=g.len (by rw [<-M.nZ];exact n1)
 simp only [Hh]
 refine pU (λc=>?_) (λc=>?_)
 ·have:=Int.ediv_lt_self_of_pos_of_ne_one (show 0<z by omega) (show b≠1 by omega)
  simp only [Hh]
  refine ⟨⟨by omega,by omega⟩,?_⟩
  simp only [Hh]
  refine ⟨by rw [z9];omega,?_⟩
  simp only [Hh]
  refine ⟨by rw [O];exact ⟨B++[z % b],z / b,some (.int (z % b)),by rw [yf];rfl,g.turn c⟩,show (z / b).toNat<z.toNat by omega⟩
 ·have e:(List.map D.int B++[D.int z]).reverse=(M.fg b n).map D.int:=by
   rw [<-(g.done (by omega)).fg U Z,List.map_reverse,yf];rfl
  simp only [Hh]
  refine ⟨by rw [z9];omega,?_⟩
  simp only [Hh]
  rw [<-e] at q
  exact q
def S_i:fK:=λas R=>∃n b:Int,as=[.d (.int n),.d (.int b)]/\0<=n/\n<M.uQ/\2<=b/\b<=36/\R (.rd (.bl (M.dh b n))) as
theorem Pq (T:Zs K mg cs):Ok P w base 4 T.cO S_i:=by
 have O:=jF P w base T
 have I:=Pn P w base T
 have J:=Pk P w base T
 refine T.cO.F.gU abe (λas R h=>?_) (λcdv A outer s H E C as R z B h=>?_)
 ·obtain ⟨_,_,rfl,_⟩:=h;rfl
 have Z:=B.units
 obtain ⟨n,b,rfl,U,n1,Y,b1,q⟩:=h
 refine ⟨_,(bf (pJ (aq (aj z T.az O B.m (a1 (qv 1)))))
    (bf (bA (PW.pt (w_or (eN (eZ (aq (aj z T.eF J B.m (a1 (qv 0)))))) (jB (uK (qv 0) qi)))) (sr (dY jz (λ_=>.bl _))) aQ)
    (bf (aD (i:=2) abe.nd rfl lc (aq (aj z T.fU I B.m (a2 (qv 0) (qv 1)))))
    (sr (Mw z Z (qv 2) (aq (aag z (qv 2)))))))),?_⟩
 simp only [Hh]
 refine ⟨Y,b1,?_⟩
 simp only [Hh]
 refine pU (λc=>absurd U (Int.not_le.mpr c)) (λc=>?_)
 simp only [Hh]
 refine ⟨U,n1,Y,b1,?_⟩
 simp only [Hh]
 refine ⟨Ep.ints _,by rw [<-List.map_reverse];exact Ep.ints _,?_⟩
 simp only [Hh]
 have e:wN (.lst ((M.fg b n).map D.int)) (.lst ((M.fg b n).map D.int).reverse)=M.dh b n:=by
  rw [<-List.map_reverse,vA];rfl
 rw [<-e] at q
 exact q
def S_J:fK:=λas R=>∃(b:Int) (m:Int),as=[.d (.int b),.d (.int m)]/\0<=b/\b<=36/\m<100000/\-100<m/\R (.rd (.int (b ^ m.toNat))) as
theorem Tq (T:Zs K mg cs):Ok P w base 1 T.jw S_J:=by
 refine T.jw.F.gU Te (λas R h=>?_) (λJ A outer s H E C as R Z D h=>?_)
 ·obtain ⟨_,_,rfl,_⟩:=h;rfl
 have Y:=D.units
 obtain ⟨b,m,rfl,b0,b1,U,O,q⟩:=h
 refine ⟨_,(bf (aD (i:=2) Te.nd rfl lc qi)
    (bf (qF zL rfl (sY rfl T.iz (a1 (qv 1))) (aK (i:=3) Te.nd rfl lc) (aH (adw (i:=2) Te.nd rfl lc (qv 0))))
    (sr (qv 2)))),?_⟩;simp only [Q,and_assoc]
 obtain ⟨I,B⟩:∃I:Nat->aO->Prop,I=(λi p=>∃v,p=[some (.d (.int b)),some (.d (.int m)),some (.d (.int (b ^ i))),Option.map Sl.d v]):=⟨_,rfl⟩
 refine vo (n:=m.toNat) (item:=λi=>.int i) (p1:=_) (λQ h=>by simp only [Q];exact ⟨by omega,by omega,h⟩) I (by rw [B];exact ⟨none,by rw [xy];rfl⟩) ?_ ?_
 ·intro i p hi z
  rw [B] at z
  obtain ⟨v,rfl⟩:=z
  simp only [Q]
  refine ⟨by omega,by rw [B];exact ⟨some (.int i),by rw [zI];rfl⟩⟩
 ·intro p z
  rw [B] at z
  obtain ⟨v,rfl⟩:=z
  simp only [Hh]
  exact q
def S_n:fK:=λas R=>∃(L:Nat) (b:Int),as=[.d (.int (L:Int)),.d (.int b)]/\0<=b/\b<=36/\L<=90000/\R (.rd (.int (b ^ (M.hf L - 1)))) as
theorem Tr (T:Zs K mg cs):Ok P w base 2 T.dg S_n:=by
 have n:=Tq P w base T
 refine T.dg.F.gU aen (λas R h=>?_) (λD A outer s H E C as R B z h=>?_)
 ·obtain ⟨_,_,rfl,_⟩:=h;rfl
 have O:=z.units
 obtain ⟨L,b,rfl,I,b1,J,q⟩:=h
 refine ⟨_,(aH (bU (aj B T.jw n z.m (a2 (qv 1) (cH (jm (dz (qv 0) qi) qi) qi))))),?_⟩
 simp only [Hh]
 have e:(((L:Int)+1) / 2 - 1).toNat=M.hf L - 1:=by unfold M.hf;omega
 rw [e]
 exact ⟨I,b1,by omega,by omega,q⟩
def S_P:fK:=λas R=>∃(n:Int) (L:Nat) (b:Int),as=[.d (.int n),.d (.int (L:Int)),.d (.int b)]/\2<=b/\b<=36/\L<=90000/\b ^ (L / 2)<2 ^ 4000/\R (.rd (.int (n / b ^ (L / 2)))) as
theorem abt (T:Zs K mg cs):Ok P w base 2 T.jx S_P:=by
 have z:=Tq P w base T
 refine T.jx.F.gU aem (λas R h=>?_) (λJ A outer s H E C as R I B h=>?_)
 ·obtain ⟨_,_,_,rfl,_⟩:=h;rfl
 have U:=B.units
 obtain ⟨n,L,b,rfl,Y,b1,O,D,q⟩:=h
 refine ⟨_,(sr (jm (qv 0) (aq (aj I T.jw z B.m (a2 (qv 2) (jm (qv 1) qi)))))),?_⟩;simp only [Q,and_assoc,S_J]
 have e:((L:Int) / 2).toNat=L / 2:=by omega
 rw [e]
 have p:=M.au (show 0<b by omega) (L / 2)
 exact ⟨by omega,b1,by omega,by omega,p,.inr (Fits.of p D (by decide)),q⟩
theorem Tt (L:Nat):Builtin.bitAnd (L:Int) 1=((L % 2:Nat):Int):=by
 rw [PyProof.Rows.bitAnd_pp (by omega) (by decide)]
 congr 1
 show (L &&& 1)=_
 exact Nat.and_one_is_mod L
def mX (b f:Int) (L:Nat):Int:=if f=0 then 0 else M.gk b f L
def S_l:fK:=λas R=>∃(f:Int) (L:Nat) (b:Int),as=[.d (.int f),.d (.int (L:Int)),.d (.int b)]/\2<=b/\b<=36/\L<=90000/\((f=0/\L=1)\/M.Fr b f L)/\R (.rd (.int (mX b f L))) as
theorem Pr (T:Zs K mg cs):Ok P w base 1 T.cX S_l:=by
 refine T.cX.F.gU Jv (λas R h=>?_) (λcdv A outer s H E C as R hK hr h=>?_)
 ·obtain ⟨_,_,_,rfl,_⟩:=h;rfl
 have hu:=hr.units
 obtain ⟨f,L,b,rfl,b0,b1,l1,hf,q⟩:=h
 -- the kZ that come again
 obtain ⟨ts,hts,HD,hl0,B⟩:∃ts:List Int,((∀d∈ts,0<=d/\d<b)/\(ts=[]\/ts.head?≠some 0)/\(mX b f L=M.val b ts.reverse+f * b ^ ts.length))/\∃HD:Int,HD=M.val b ts/\(if L % 2=0 then f else f / b)=HD:=by
  rcases hf with ⟨rfl,rfl⟩|F
  ·exact ⟨[],⟨λd hd=>absurd hd yQ,.inl rfl,by simp [mX,M.val]⟩,0,rfl,by simp⟩
  ·have d:=M.fG b0 (show 0<=f by have:=F.pos;omega)
   have hl:=F.len
   have hd:=d.pos (by have:=F.pos;omega)
   have hL:=F.L1
   refine ⟨(M.fg b f).take (L / 2),⟨λx Z=>d.nq x (xk Z),?_,?_⟩,_,rfl,?_⟩
   ·match M.fg b f,L / 2,hd with
    | x::r,0,_=>exact .inl rfl
    | [],_,_=>exact .inl (by simp)
    | x::r,k+1,hd=>exact .inr (by simpa using hd)
   ·have hz:f≠0:=by have:=F.pos;omega
    unfold mX
    rw [zh hz]
    unfold M.gk
    rw [M.xJ,d.val,yX]
    omega
   ·by_cases Y:L % 2=0
    ·rw [zo Y]
     have e:L / 2=(M.fg b f).length:=by rw [hl];unfold M.hf;omega
     rw [e,List.take_length,d.val]
    ·rw [zh Y]
     have e:L / 2=(M.fg b f).length - 1:=by rw [hl];unfold M.hf;omega
     have:=(M.pX b0 d 1 (by rw [hl];unfold M.hf;omega)).1
     rw [zI,xy,xm] at this
     rw [e];exact this
 obtain ⟨tr,th,tv⟩:=hts
 refine ⟨_,(bf (aD (i:=3) Jv.nd rfl lc (qv 0))
    (bf (aD (i:=4) Jv.nd rfl lc (nP (gF hK hu (aad (qv 1) qi) qi) (qv 0) (jm (qv 0) (qv 2))))
    (bf (Mj zL (Ec (qv 4) qi) (bf (gB (vg rfl T.CN (a2 (qv 4) (qv 2))) (jO (n:=2) hK rfl (aX (aK (i:=4) Jv.nd rfl lc) (aX (aK (i:=5) Jv.nd rfl lc) fc))))
    (aH (aD (i:=3) Jv.nd rfl lc (dz (qy (qv 3) (qv 2)) (qv 5))))))
    (sr (qv 3))))),?_⟩
 refine d8 ?_
 simp only [R]
 refine dU (λp=>p=[some (.d (.int f)),some (.d (.int (L:Int))),some (.d (.int b)),some (.d (.int f)),some (.d (.int HD)),none]) (λk hk=>?_) ?_
 ·simp only [Q]
  rw [Tt]
  refine eX (λc=>?_) (λc=>?_)
  ·rw [zo (by omega)] at B
   rw [<-B] at hk
   exact hk _ rfl
  ·rw [zh (by omega)] at B
   rw [<-B] at hk
   exact ⟨by omega,.inl (by omega),hk _ rfl⟩
 rintro p rfl
 refine d8 ?_
 obtain ⟨I,hI⟩:∃I:aO->Prop,I=(λp=>∃(O vs:List Int) (v:Option D),ts=O++vs/\p=[some (.d (.int f)),some (.d (.int (L:Int))),some (.d (.int b)),some (.d (.int (f * b ^ vs.length+M.val b vs.reverse))),some (.d (.int (M.val b O))),Option.map Sl.d v]):=⟨_,rfl⟩
 refine nU I (λp=>match p[4]? with|some (some (Sl.d (D.int r)))=>r.toNat|_=>0) (by rw [hI];exact ⟨ts,[],none,by simp,by rw [hl0];simp [M.val]⟩) ?_
 intro p Y
 rw [hI] at Y
 obtain ⟨O,vs,v,e,rfl⟩:=Y
 have U:∀d∈O,0<=d/\d<b:=λd hd=>tr d (by rw [e];exact yE _ hd)
 have u0:=M.jV (show 0<=b by omega) U
 simp only [Hh]
 refine pU (λc=>?_) (λc=>?_)
 ·have hne:O≠[]:=by intro z;rw [z] at c;exact absurd c (by show ¬(0:Int)<0;decide)
  obtain ⟨J,d,rfl⟩:=RK O hne
  have hd:=U d (by simp)
  obtain ⟨m1,m2⟩:=M.val_mod (xs:=J) hd
  have:=Int.ediv_lt_self_of_pos_of_ne_one c (show b≠1 by omega)
  have:=M.jV (show 0<=b by omega) (xs:=J) (λx Z=>U x (yE _ Z))
  simp only [Hh]
  refine ⟨⟨by omega,by omega⟩,?_⟩
  simp only [Hh]
  refine ⟨.inr ⟨by omega,by omega⟩,?_⟩
  simp only [Hh]
  refine ⟨?_,show (M.val b (J++[d]) / b).toNat<(M.val b (J++[d])).toNat by omega⟩
  rw [hI]
  refine ⟨J,d::vs,some (.int d),by rw [e];simp,?_⟩
  have ev:(f * b ^ vs.length+M.val b vs.reverse) * b+d=f * b ^ (vs.length+1)+M.val b (vs.reverse++[d]):=by rw [M.jf,zI,Int.add_mul,xA,<-Int.add_assoc]
  rw [m1,m2,yi,zG,<-ev]
  rfl
 ·have hz:O=[]:=by
   match O,e,U,c with
   | [],_,_,_=>rfl
   | x::r,e,U,c=>
    exfalso
    have Z:=U x zt
    have x0:x≠0:=by
     rcases th with z|z
     ·rw [e] at z;simp at z
     ·rw [e] at z;simpa using z
    rw [M.fD] at c
    have h1:=M.jV (show 0<=b by omega) (xs:=r) (λy hy=>U y (zn _ hy))
    have p:=M.au (show 0<b by omega) r.length
    have:=zy (show 1<=x by omega) (show 0<=b ^ r.length by omega)
    omega
  rw [hz,xC] at e
  rw [e] at tv
  have:f * b ^ vs.length+M.val b vs.reverse=mX b f L:=by rw [tv];omega
  simp only [Hh]
  rw [<-this] at q
  exact q
def lnz (b n:Int):Nat:=if n=0 then 1 else M.ln b n
def FP (b n:Int):Int:=if n=0 then 0 else n / b ^ (M.ln b n / 2)
def YL (b n:Int):Int:=if n=0 then 0 else M.gk b (n / b ^ (M.ln b n / 2)) (M.ln b n)
theorem ln0 {b:Int} (n:2<=b):M.ln b 0=1:=by unfold M.ln;rw [M.rM n];rfl
def S_W:fK:=λas R=>∃n b:Int,as=[.d (.int n),.d (.int b)]/\0<=n/\n<M.uQ/\2<=b/\b<=36/\R (.rd (.tup [.int (M.ln b n:Int),.int (FP b n),.int (YL b n)])) as
theorem abu (T:Zs K mg cs):Ok P w base 4 T.oO S_W:=by
 have Z:=abt P w base T
 have U:=Pn P w base T
 have Y:=Pr P w base T
 refine T.oO.F.gU Yy (λas R h=>?_) (λcdv A outer s H E C as R J I h=>?_)
 ·obtain ⟨_,_,rfl,_⟩:=h;rfl
 have hu:=I.units
 obtain ⟨n,b,rfl,B,n1,z,b1,q⟩:=h
 have l1:=M.Cy z B n1
 have l0:=M.eE z B
 have el:(List.map D.int (M.fg b n)).length=M.ln b n:=by rw [z9];rfl
 have hp:b ^ (M.ln b n / 2)<2 ^ 4000:=by
  by_cases q:M.ln b n=1
  ·rw [q]
   have:(1:Int)<2 ^ 4000:=by decide
   simpa using this
  ·exact M.pw_big z B n1 (k:=M.ln b n / 2) (by omega)
 refine ⟨_,(bf (aD (i:=2) Yy.nd rfl lc (gm J rfl T.fL (a1 (aq (aj J T.fU U I.m (a2 (qv 0) (qv 1)))))))
    (bf (aD (i:=3) Yy.nd rfl lc (aq (aj J T.jx Z I.m (a3 (qv 0) (qv 2) (qv 1)))))
    (sr (vf (a3 (qv 2) (qv 3) (aq (aj J T.cX Y I.m (aF (qv 3) (aF (qv 2) (a1 (qv 1))))))))))),?_⟩
 simp only [Hh]
 refine ⟨B,n1,z,b1,?_⟩
 simp only [Hh]
 rw [el]
 refine ⟨z,b1,by omega,hp,?_⟩
 simp only [Hh]
 by_cases O:n=0
 ·subst O
  have e2:(0:Int) / b ^ (M.ln b 0 / 2)=0:=by simp
  rw [e2]
  rw [ln0 z] at *
  refine ⟨z,b1,by omega,.inl ⟨rfl,rfl⟩,?_⟩
  simp only [Hh]
  exact q
 ·have F:=M.bM z (by omega:1<=n)
  refine ⟨z,b1,by omega,.inr F,?_⟩
  simp only [Hh]
  have e3:mX b (n / b ^ (M.ln b n / 2)) (M.ln b n)=YL b n:=by
   unfold mX YL
   rw [zh (by have:=F.pos;omega),zh O]
  have e4:n / b ^ (M.ln b n / 2)=FP b n:=by unfold FP;rw [zh O]
  rw [e3,e4]
  exact q
def S_F:fK:=λas R=>∃n b:Int,as=[.d (.int n),.d (.int b)]/\0<=n/\n<M.uQ/\2<=b/\b<=36/\∀m,M.AM b n m->R (.rd (.int m)) as
theorem Tu {b:Int} (n:2<=b):M.AM b 0 0:=⟨M.fH (by decide) (by omega),by decide,λk _ h=>h⟩
theorem Tv {b:Int} (n:2<=b):M.AL b 0 0:=⟨M.fH (by decide) (by omega),by decide,λk _ h=>h⟩
theorem YM (T:Zs K mg cs):Ok P w base 5 T.jg S_F:=by
 have Ak:=jF P w base T
 have G_W:=abu P w base T
 have Z:=Pr P w base T
 have Y:=Tr P w base T
 have G_J:=Tq P w base T
 refine T.jg.F.gU Tf (λas R h=>?_) (λcdv A outer s H E C as R B D h=>?_)
 ·obtain ⟨_,_,rfl,_⟩:=h;rfl
 have hu:=D.units
 obtain ⟨n,b,rfl,J,n1,z,b1,q⟩:=h
 have l1:=M.Cy z J n1
 have l0:=M.eE z J
 refine ⟨_,(bf (pJ (aq (aj B T.az Ak D.m (a1 (qv 1)))))
    (bf (gB (aq (aj B T.oO G_W D.m (a2 (qv 0) (qv 1)))) (jO (n:=3) B rfl (aX (aK (i:=2) Tf.nd rfl lc) (aX (aK (i:=3) Tf.nd rfl lc) (aX (aK (i:=4) Tf.nd rfl lc) fc)))))
    (bf (bA (adk (qv 4) (qv 0)) (sr (qv 4)) aQ)
    (bf (bA (gF B hu (qv 3) (aq (aj B T.dg Y D.m (a2 (qv 2) (qv 1))))) (sr (cH (aq (aj B T.jw G_J D.m (a2 (qv 1) (cH (qv 2) qi)))) qi)) aQ)
    (aH (bU (aj B T.cX Z D.m (a3 (cH (qv 3) qi) (qv 2) (qv 1))))))))),?_⟩
 simp only [Hh]
 refine ⟨z,b1,?_⟩
 simp only [Hh]
 refine ⟨J,n1,z,b1,?_⟩
 simp only [Hh]
 by_cases O:n=0
 ·subst O
  refine pU (λ_=>?_) (λc=>absurd (yS 0) c)
  simp only [Hh]
  exact q _ (Tu z)
 have I:1<=n:=by omega
 have F:=M.bM z I
 have e1:YL b n=M.gk b (n / b ^ (M.ln b n / 2)) (M.ln b n):=by unfold YL;rw [zh O]
 have e2:FP b n=n / b ^ (M.ln b n / 2):=by unfold FP;rw [zh O]
 rw [e1,e2]
 refine pU (λc=>?_) (λc=>?_)
 ·simp only [Hh]
  exact q _ (M.Oj z I c)
 simp only [Hh]
 refine ⟨by omega,b1,by omega,?_⟩
 simp only [Hh]
 refine Yn (λU=>?_) (λU=>?_)
 ·simp only [Hh]
  refine ⟨by omega,b1,by omega,by omega,?_⟩
  simp only [Hh]
  rw [show ((M.ln b n:Int) - 1).toNat=M.ln b n - 1 by omega]
  exact q _ (M.Ol z I (by omega) U)
 ·have F1:M.Fr b (n / b ^ (M.ln b n / 2) - 1) (M.ln b n):=⟨z,F.L1,by have:=F.lo;omega,by have:=F.hi;omega⟩
  simp only [Hh]
  refine ⟨z,b1,by omega,.inr F1,?_⟩
  have e3:mX b (n / b ^ (M.ln b n / 2) - 1) (M.ln b n)=M.gk b (n / b ^ (M.ln b n / 2) - 1) (M.ln b n):=by
   unfold mX;rw [zh (by have:=F1.pos;omega)]
  rw [e3]
  exact q _ (M.SM z I (by omega) U)
def S_O:fK:=λas R=>∃n b:Int,as=[.d (.int n),.d (.int b)]/\0<=n/\n<M.uQ/\2<=b/\b<=36/\∀m,M.AL b n m->R (.rd (.int m)) as
theorem aeK (T:Zs K mg cs):Ok P w base 5 T.mU S_O:=by
 have U:=jF P w base T
 have Y:=abu P w base T
 have O:=Pr P w base T
 refine T.mU.F.gU Tg (λas R h=>?_) (λcdv A outer s H E C as R D B h=>?_)
 ·obtain ⟨_,_,rfl,_⟩:=h;rfl
 have hu:=B.units
 obtain ⟨n,b,rfl,I,n1,z,b1,q⟩:=h
 have l1:=M.Cy z I n1
 have l0:=M.eE z I
 refine ⟨_,(bf (pJ (aq (aj D T.az U B.m (a1 (qv 1)))))
    (bf (gB (aq (aj D T.oO Y B.m (a2 (qv 0) (qv 1)))) (jO (n:=3) D rfl (aX (aK (i:=2) Tg.nd rfl lc) (aX (aK (i:=3) Tg.nd rfl lc) (aX (aK (i:=4) Tg.nd rfl lc) fc)))))
    (bf (bA (Lp (qv 4) (qv 0)) (sr (qv 4)) aQ)
    (aH (bU (aj D T.cX O B.m (a3 (dz (qv 3) qi) (qv 2) (qv 1)))))))),?_⟩
 simp only [Hh]
 refine ⟨z,b1,?_⟩
 simp only [Hh]
 refine ⟨I,n1,z,b1,?_⟩
 simp only [Hh]
 by_cases J:n=0
 ·subst J
  refine pU (λ_=>?_) (λc=>absurd (yS 0) c)
  simp only [Hh]
  exact q _ (Tv z)
 have Z:1<=n:=by omega
 have e1:YL b n=M.gk b (n / b ^ (M.ln b n / 2)) (M.ln b n):=by unfold YL;rw [zh J]
 have e2:FP b n=n / b ^ (M.ln b n / 2):=by unfold FP;rw [zh J]
 rw [e1,e2]
 refine pU (λc=>?_) (λc=>?_)
 ·simp only [Hh]
  exact q _ (M.Om z Z c)
 obtain ⟨F1,h1⟩:=M.SN z Z (by omega)
 simp only [Hh]
 refine ⟨z,b1,by omega,.inr F1,?_⟩
 have e3:mX b (n / b ^ (M.ln b n / 2)+1) (M.ln b n)=M.gk b (n / b ^ (M.ln b n / 2)+1) (M.ln b n):=by
  unfold mX;rw [zh (by have:=F1.pos;omega)]
 rw [e3]
 exact q _ h1
def S_r:fK:=λas R=>∃(L:Nat) (b:Int),as=[.d (.int (L:Int)),.d (.int b)]/\0<=b/\b<=36/\L<=90000/\R (.rd (.int (M.vJ b L))) as
theorem abv (T:Zs K mg cs):Ok P w base 2 T.cV S_r:=by
 have n:=Tq P w base T
 refine T.cV.F.gU aeq (λas R h=>?_) (λI A outer s H E C as R B z h=>?_)
 ·obtain ⟨_,_,rfl,_⟩:=h;rfl
 have O:=z.units
 obtain ⟨L,b,rfl,D,b1,J,q⟩:=h
 refine ⟨_,(sr (cH (dz (cH (aq (aj B T.jw n z.m (a2 (qv 1) (jm (dz (qv 0) qi) qi)))) qi) (aq (aj B T.jw n z.m (a2 (qv 1) (jm (qv 0) qi))))) qi)),?_⟩
 simp only [Hh]
 refine ⟨D,b1,by omega,by omega,?_⟩
 simp only [Hh]
 refine ⟨D,b1,by omega,by omega,?_⟩
 simp only [Hh]
 rw [show (((L:Int)+1) / 2).toNat=M.hf L by unfold M.hf;omega,show ((L:Int) / 2).toNat=L / 2 by omega]
 exact q
def S_w:fK:=λas R=>∃n b:Int,as=[.d (.int n),.d (.int b)]/\M.Mp b n/\n<M.uQ/\2<=b/\b<=36/\R (.rd (.int (M.pl b n))) as
theorem abw (T:Zs K mg cs):Ok P w base 5 T.eG S_w:=by
 have Ak:=jF P w base T
 have G_i:=Pq P w base T
 have Y:=Pn P w base T
 have G_P:=abt P w base T
 have G_n:=Tr P w base T
 have Z:=abv P w base T
 refine T.eG.F.gU Th (λas R h=>?_) (λcdv A outer s H E C as R z B h=>?_)
 ·obtain ⟨_,_,rfl,_⟩:=h;rfl
 have hu:=B.units
 obtain ⟨n,b,rfl,mp,n1,I,b1,q⟩:=h
 have J:=mp.1
 have l1:=M.Cy I J n1
 have l0:=M.eE I J
 have el:(List.map D.int (M.fg b n)).length=M.ln b n:=by rw [z9];rfl
 refine ⟨_,(bf (pJ (aq (aj z T.az Ak B.m (a1 (qv 1)))))
    (bf (bA (eN (eZ (aq (aj z T.cO G_i B.m (a2 (qv 0) (qv 1)))))) (aH pK) aQ)
    (bf (bA (gF z hu (qv 0) qi) (sr qi) aQ)
    (bf (aD (i:=2) Th.nd rfl lc (gm z rfl T.fL (a1 (aq (aj z T.fU Y B.m (a2 (qv 0) (qv 1)))))))
    (bf (aD (i:=3) Th.nd rfl lc (cH (aq (aj z T.jx G_P B.m (a3 (qv 0) (qv 2) (qv 1)))) (aq (aj z T.dg G_n B.m (a2 (qv 2) (qv 1))))))
    (sr (dz (dz (aq (aj z T.cV Z B.m (a2 (cH (qv 2) qi) (qv 1)))) (qv 3)) qi))))))),?_⟩
 simp only [Hh]
 refine ⟨I,b1,?_⟩
 simp only [Hh]
 refine ⟨J,n1,I,b1,?_⟩
 simp only [Hh]
 rw [mp.2]
 simp only [Hh]
 refine Yn (λO=>?_) (λO=>?_)
 ·simp only [Hh]
  unfold M.pl at q
  rw [zo O] at q
  exact q
 have U:b ^ (M.ln b n / 2)<2 ^ 4000:=by
  by_cases q:M.ln b n=1
  ·rw [q]
   have:(1:Int)<2 ^ 4000:=by decide
   simpa using this
  ·exact M.pw_big I J n1 (by omega)
 simp only [Hh]
 refine ⟨J,n1,I,b1,?_⟩
 simp only [Hh]
 rw [el]
 refine ⟨I,b1,by omega,U,?_⟩
 simp only [Hh]
 refine ⟨by omega,b1,by omega,?_⟩
 simp only [Hh]
 refine ⟨M.ln b n - 1,b,?_,by omega,b1,by omega,?_⟩
 ·rw [show ((M.ln b n - 1:Nat):Int)=(M.ln b n:Int) - 1 by omega]
 simp only [Hh]
 unfold M.pl at q
 rw [zh O] at q
 exact q
def aeM:fK:=λas R=>∃n b:Int,as=[.d (.int n),.d (.int b)]/\0<=n/\n<M.uQ/\2<=b/\b<=36/\R (.rd (.int (M.cnt b n))) as
theorem aby (T:Zs K mg cs):Ok P w base 6 T.qe aeM:=by
 have O:=jF P w base T
 have J:=abw P w base T
 have U:=YM P w base T
 refine T.qe.F.gU abg (λas R h=>?_) (λZ A outer s H E C as R I z h=>?_)
 ·obtain ⟨_,_,rfl,_⟩:=h;rfl
 have hu:=z.units
 obtain ⟨n,b,rfl,Y,n1,B,b1,q⟩:=h
 refine ⟨_,(bf (pJ (aq (aj I T.az O z.m (a1 (qv 1)))))
    (aH (bU (aj I T.eG J z.m (a2 (aq (aj I T.jg U z.m (a2 (qv 0) (qv 1)))) (qv 1)))))),?_⟩
 simp only [Hh]
 refine ⟨B,b1,?_⟩
 simp only [Hh]
 refine ⟨Y,n1,B,b1,λm D=>?_⟩
 simp only [Hh]
 refine ⟨D.mp,by have:=D.le;omega,B,b1,?_⟩
 rw [M.xN B Y D]
 exact q
theorem Tw {b:Int} (n:2<=b) {L:Nat} (hL:200<=L):(10:Int) ^ 25<M.vJ b L:=by
 have h1:=M.jo n 100
 have h2:=M.bF (b:=b) (by omega) (show 100<=M.hf L by unfold M.hf;omega)
 have h3:=M.au (show 0<b by omega) (L / 2)
 have:(10:Int) ^ 25+1<2 ^ 100:=by decide
 unfold M.vJ
 omega
theorem Df {b c:Int} (h0:0<=b) (h:b<=c):∀k:Nat,b ^ k<=c ^ k
 | 0=>by simp
 | k+1=>by
  rw [zI,zI]
  have n:=Df h0 h k
  have:0<=b ^ k:=Int.pow_nonneg h0
  exact yC n h h0 (by omega)
def S_D:fK:=λas R=>∃n b:Int,as=[.d (.int n),.d (.int b)]/\0<=n/\n<=10 ^ 25/\2<=b/\b<=36/\∀m,M.Mp b m->M.pl b m=n->m<M.Mid->R (.rd (.int m)) as
theorem aeN (T:Zs K mg cs):Ok P w base 3 T.iM S_D:=by
 have Ak:=jF P w base T
 have G_l:=Pr P w base T
 have Y:=abv P w base T
 have G_n:=Tr P w base T
 refine T.iM.F.gU Ti (λas R h=>?_) (λcdv A outer s H E C as R J B h=>?_)
 ·obtain ⟨_,_,rfl,_⟩:=h;rfl
 have hu:=B.units
 obtain ⟨n,b,rfl,n0,n1,U,b1,q⟩:=h
 have B0:(0:Int)<M.Mid:=M.Yq (by decide)
 refine ⟨_,(bf (pJ (aq (aj J T.az Ak B.m (a1 (qv 1)))))
    (bf (bA (gF J hu (qv 0) qi) (sr qi) aQ)
    (bf (aD (i:=2) Ti.nd rfl lc qi)
    (bf (Mj zL (uK (aq (aj J T.cV Y B.m (a2 (qv 2) (qv 1)))) (qv 0)) (aH (aak (i:=2) Ti.nd rfl lc qi)))
    (bf (aD (i:=3) Ti.nd rfl lc (cH (cH (qv 0) (aq (aj J T.cV Y B.m (a2 (cH (qv 2) qi) (qv 1))))) qi))
    (aH (bU (aj J T.cX G_l B.m (a3 (dz (aq (aj J T.dg G_n B.m (a2 (qv 2) (qv 1)))) (qv 3)) (qv 2) (qv 1)))))))))),?_⟩
 simp only [Hh]
 refine ⟨U,b1,?_⟩
 simp only [Hh]
 refine Yn (λhz=>?_) (λhz=>?_)
 ·simp only [Hh]
  subst hz
  exact q 0 (M.fH (by decide) (by omega)) (by unfold M.pl;rw [zo rfl]) B0
 simp only [Hh]
 dsimp only
 refine dU (λp=>∃L:Nat,1<=L/\L<=200/\M.vJ b (L - 1)<n/\n<=M.vJ b L/\p=[some (.d (.int n)),some (.d (.int b)),some (.d (.int (L:Int))),none]) (λk hk=>?_) ?_
 ·obtain ⟨I,Z⟩:∃I:aO->Prop,I=(λp=>∃L:Nat,1<=L/\L<=200/\M.vJ b (L - 1)<n/\p=[some (.d (.int n)),some (.d (.int b)),some (.d (.int (L:Int))),none]):=⟨_,rfl⟩
  refine nU I (λp=>match p[2]? with|some (some (Sl.d (D.int r)))=>(200 - r).toNat|_=>0) (by rw [Z];exact ⟨1,by decide,by decide,by simp [M.vJ,M.hf];omega,rfl⟩) ?_
  intro p hp
  rw [Z] at hp
  obtain ⟨L,L1,L2,O,rfl⟩:=hp
  simp only [Hh]
  refine ⟨by omega,b1,by omega,?_⟩
  simp only [Hh]
  refine pU (λc=>?_) (λc=>?_)
  ·have h3:L≠200:=λz=>by
    have:=Tw U (L:=L) (by omega)
    omega
   simp only [Hh]
   refine ⟨?_,show (200 - ((L:Int)+1)).toNat<(200 - (L:Int)).toNat by omega⟩
   rw [Z]
   exact ⟨L+1,by omega,by omega,by rw [ye];exact c,rfl⟩
  ·exact hk _ ⟨L,L1,L2,O,by omega,rfl⟩
 rintro p ⟨L,L1,L2,O,hle,rfl⟩
 have ms:=M.ue (b:=b) L1
 have F:M.Fr b (b ^ (M.hf L - 1)+(n - M.vJ b (L - 1) - 1)) L:=⟨U,L1,by omega,by omega⟩
 have hB:M.gk b (b ^ (M.hf L - 1)+(n - M.vJ b (L - 1) - 1)) L<M.Mid:=by
  have h1:=M.iw U F.xK
  rw [F.ln] at h1
  have h2:=Df (show 0<=b by omega) b1 L
  have h3:=M.bF (b:=36) (by decide) L2
  have h4:(36:Int) ^ 200<M.Mid:=by unfold M.Mid;decide
  omega
 simp only [Hh]
 refine ⟨L - 1,b,?_,by omega,b1,by omega,?_⟩
 ·rw [show ((L - 1:Nat):Int)=(L:Int) - 1 by omega]
 simp only [Hh]
 refine ⟨by omega,b1,by omega,?_⟩
 simp only [Hh]
 refine ⟨U,b1,by omega,.inr F,?_⟩
 have e3:mX b (b ^ (M.hf L - 1)+(n - M.vJ b (L - 1) - 1)) L=M.gk b (b ^ (M.hf L - 1)+(n - M.vJ b (L - 1) - 1)) L:=by
  unfold mX;rw [zh (by have:=F.pos;omega)]
 rw [e3]
 exact q _ F.mp (by rw [F.pl];omega) hB
def S_d:fK:=λas R=>∃n b:Int,as=[.d (.int n),.d (.int b)]/\0<=n/\n<=10 ^ 6/\2<=b/\b<=36/\R (.ro ((M.bH b n).map D.int)) as
theorem Pu (T:Zs K mg cs):Ok P w base 4 T.cP S_d:=by
 have G_n:=Tr P w base T
 have G_l:=Pr P w base T
 have G_t:=Pn P w base T
 refine T.cP.F.gU Jw (λas R h=>?_) (λcdv A outer s H E C as R hK hr h=>?_)
 ·obtain ⟨_,_,rfl,_⟩:=h;rfl
 have hu:=hr.units
 obtain ⟨n,b,rfl,n0,n1,B,b1,q⟩:=h
 have nB:n<M.uQ:=M.Fj (Int.le_trans n1 (by decide))
 have l0:=M.eE B n0
 have l1:=M.Cy B n0 nB
 have hl:(M.fg b n).length=M.ln b n:=rfl
 have nl:=M.iw B n0
 have aeP:∀m:Int,0<=m->m<=n->(M.bH b m).length<80000:=λm O m1=>by
  have h1:=M.n_ b m
  have h2:=M.xQ B b1 O (by omega)
  omega
 have bL:b ^ M.ln b n<=36 * 10 ^ 6+36:=by
  by_cases hz:n=0
  ·have e:M.ln b n=1:=by rw [hz];unfold M.ln;rw [M.rM B];rfl
   rw [e,M.uc]
   omega
  ·have g:=M.gC B (show 1<=n by omega)
   obtain ⟨j,hj⟩:∃j,M.ln b n=j+1:=⟨M.ln b n - 1,by omega⟩
   rw [hj] at g ⊢
   rw [ye] at g
   rw [zI]
   have h1:b ^ j * b<=n * b:=zy g (by omega)
   have h2:n * b<=10 ^ 6 * 36:=yC n1 b1 (by omega) (by decide)
   omega
 refine ⟨_,(bf (iG (i:=2) Jw.nd rfl lc (bN e_))
    (bf (qF zL rfl (sZ rfl T.iz (a2 qi (dz (gm hK rfl T.fL (a1 (aq (aj hK T.fU G_t hr.m (aF (qv 0) (a1 (qv 1))))))) qi))) (aK (i:=3) Jw.nd rfl lc) (bf (aD (i:=4) Jw.nd rfl lc (aq (aj hK T.dg G_n hr.m (a2 (qv 3) (qv 1)))))
    (aH (qF zL rfl (sZ rfl T.iz (a2 (qv 4) (qy (qv 4) (qv 1)))) (aK (i:=5) Jw.nd rfl lc) (bf (aD (i:=6) Jw.nd rfl lc (aq (aj hK T.cX G_l hr.m (a3 (qv 5) (qv 3) (qv 1)))))
    (bf (bA (Ec (qv 6) (qv 0)) (aH (pL (i:=2) (pv 2))) aQ)
    (aH (pJ (iY hK (pv 2) (a1 (qv 6)))))))))))
    (aH (pL (i:=2) (pv 2))))),?_⟩
 refine d8 ?_
 simp only [R]
 obtain ⟨I,hI⟩:∃I:Nat->aO->Prop,I=(λi p=>∃w3 w4 Z Y:Option D,b ^ i - 1<=n/\p=[some (.d (.int n)),some (.d (.int b)),some (.own ((M.bH b (b ^ i - 1)).map D.int)),Option.map Sl.d w3,Option.map Sl.d w4,Option.map Sl.d Z,Option.map Sl.d Y]):=⟨_,rfl⟩
 refine d8 (Uu ?_)
 simp only [R,S_t,z9,hl]
 have eL:((M.ln b n:Int)+1 - 1).toNat=M.ln b n:=by omega
 rw [eL]
 refine ⟨n0,nB,B,b1,by omega,by omega,I,by rw [hI];exact ⟨none,none,none,none,by rw [xy];omega,by rw [xy];rfl⟩,?_,?_⟩
 ·intro i p hi U
  rw [hI] at U
  obtain ⟨w3,w4,Z,Y,hle,rfl⟩:=U
  have ei:(1:Int)+i=((i+1:Nat):Int):=by omega
  rw [ei]
  have i0:1<=i+1:=by omega
  have h0:=M.ud i0
  have pw:=M.au (show 0<b by omega) (M.hf (i+1) - 1)
  obtain ⟨cn,hcn⟩:∃cn:Nat,(cn:Int)=b ^ M.hf (i+1) - b ^ (M.hf (i+1) - 1):=⟨(b ^ M.hf (i+1) - b ^ (M.hf (i+1) - 1)).toNat,by
   have:=M.bF (b:=b) (by omega) (show M.hf (i+1) - 1<=M.hf (i+1) by omega)
   omega⟩
  have eb:b ^ (M.hf (i+1) - 1) * b=b ^ M.hf (i+1):=by rw [<-zI];congr 1;omega
  simp only [R]
  refine d8 ?_
  simp only [R,S_n]
  refine ⟨by omega,b1,by omega,?_⟩
  refine Uu ?_
  simp only [R,eb]
  have bg1:=M.bF (b:=b) (by omega) (show M.hf (i+1)<=M.ln b n by unfold M.hf;omega)
  have bg2:=M.bF (b:=b) (by omega) (show M.hf (i+1) - 1<=M.hf (i+1) by omega)
  have ec:(b ^ M.hf (i+1) - b ^ (M.hf (i+1) - 1)).toNat=cn:=by omega
  have c1:1<=cn:=by
   have:=yc B (show 0<=b ^ (M.hf (i+1) - 1) by omega)
   omega
  rw [ec]
  obtain ⟨J,hJ⟩:∃J:Nat->aO->Prop,J=(λ(j:Nat) p=>∃(O:Int) (Z Y:Option D),(j=0->O=b ^ i - 1)/\(1<=j->O=M.gk b (b ^ (M.hf (i+1) - 1)+(j:Int) - 1) (i+1))/\O<=n/\M.Mp b O/\p=[some (.d (.int n)),some (.d (.int b)),some (.own ((M.bH b O).map D.int)),some (.d (.int ((i+1:Nat):Int))),some (.d (.int (b ^ (M.hf (i+1) - 1)))),Option.map Sl.d Z,Option.map Sl.d Y]):=⟨_,rfl⟩
  refine ⟨.inr ⟨by omega,by omega⟩,by omega,by omega,by omega,by omega,J,by rw [hJ];exact ⟨b ^ i - 1,Z,Y,λ_=>rfl,λz=>absurd z (by decide),hle,M.jW B i,rfl⟩,?_,?_⟩
  ·intro j p hj U
   rw [hJ] at U
   obtain ⟨O,Z,Y,e1,e2,hm,mp,rfl⟩:=U
   have F:M.Fr b (b ^ (M.hf (i+1) - 1)+(j:Int)) (i+1):=⟨B,i0,by omega,by omega⟩
   have e3:mX b (b ^ (M.hf (i+1) - 1)+(j:Int)) (i+1)=M.gk b (b ^ (M.hf (i+1) - 1)+(j:Int)) (i+1):=by
    unfold mX;rw [zh (by have:=F.pos;omega)]
   have nx:M.Nx b O (M.gk b (b ^ (M.hf (i+1) - 1)+(j:Int)) (i+1)):=by
    by_cases z:j=0
    ·rw [e1 z,z]
     have:=M.Ou B i0
     rw [ye] at this
     rw [show b ^ (M.hf (i+1) - 1)+((0:Nat):Int)=b ^ (M.hf (i+1) - 1) by omega]
     exact this
    ·rw [e2 (by omega)]
     have F0:M.Fr b (b ^ (M.hf (i+1) - 1)+(j:Int) - 1) (i+1):=⟨B,i0,by omega,by omega⟩
     have F1:M.Fr b (b ^ (M.hf (i+1) - 1)+(j:Int) - 1+1) (i+1):=by rw [Int.sub_add_cancel];exact F
     have:=M.aa1 F0 F1
     rw [Int.sub_add_cancel] at this
     exact this
   have st:=M.Ot mp nx
   have mp2:=F.mp
   have ln6:=aeP O mp.1 hm
   generalize hG:M.gk b (b ^ (M.hf (i+1) - 1)+(j:Int)) (i+1)=m at *
   simp only [Hh]
   refine ⟨B,b1,by omega,.inr F,?_⟩
   rw [e3]
   simp only [Hh]
   refine pU (λc=>?_) (λc=>?_)
   ·simp only [Hh]
    rw [M.Hj mp nx hm c] at q
    exact q
   ·simp only [Hh]
    refine ⟨by rw [z9];omega,?_⟩
    simp only [Hh]
    show J (j+1) _
    rw [hJ]
    refine ⟨m,some (.int (b ^ (M.hf (i+1) - 1)+(j:Int))),some (.int m),λz=>absurd z (by omega),λ_=>?_,by omega,mp2,?_⟩
    ·rw [<-hG];congr 1;push_cast;omega
    ·rw [st,yf];rfl
  ·intro p U
   rw [hJ] at U
   obtain ⟨O,Z,Y,e1,e2,hm,mp,rfl⟩:=U
   have e3:O=b ^ (i+1) - 1:=by
    rw [e2 c1,show b ^ (M.hf (i+1) - 1)+(cn:Int) - 1=b ^ M.hf (i+1) - 1 by omega]
    exact (M.vI B i0).2
   rw [hI]
   subst e3
   exact ⟨some (.int ((i+1:Nat):Int)),some (.int (b ^ (M.hf (i+1) - 1))),Z,Y,hm,rfl⟩
 ·intro p U
  rw [hI] at U
  obtain ⟨w3,w4,Z,Y,hle,rfl⟩:=U
  have e:b ^ M.ln b n - 1=n:=by omega
  rw [e]
  simp only [Hh]
  exact q
def abA:fK:=λas R=>∃B z n k:Int,as=[.d (.int B),.d (.int z),.d (.int n),.d (.int k)]/\0<=B/\B<=2000/\0<=z/\z<=2000/\0<=n/\n<=2000/\0<=k/\k<=2000 /\
 R (.ro ((pP (B+z - 1) ((if n - k+z<B * z then n - k+z else B * z)+1 - (B+z - 1)).toNat).map D.int)) as
theorem Vf (T:Zs K mg cs):Ok P w base 1 T.oR abA:=by
 refine T.oR.F.gU abn (λas R h=>?_) (λU A outer s H E C as R hK O h=>?_)
 ·obtain ⟨_,_,_,_,rfl,_⟩:=h;rfl
 have hu:=O.units
 obtain ⟨B,size,n,k,rfl,p0,p1,I,J,n0,n1,k0,k1,q⟩:=h
 have m0:0<=B * size:=Int.mul_nonneg p0 I
 have m1:B * size<=2000 * 2000:=yC p1 J I (by decide)
 refine ⟨_,(aH (bU (Ey rfl rfl T.Yv rfl T.iz (a2 (cH (dz (qv 0) (qv 1)) qi) (dz (WW rfl rfl T.aa7 (a2 (qy (qv 0) (qv 1)) (dz (cH (qv 2) (qv 3)) (qv 1)))) qi))))),?_⟩
 simp only [R]
 obtain ⟨z,D⟩:∃z,z=(if n - k+size<B * size then n - k+size else B * size):=⟨_,rfl⟩
 have Z:z<=4000:=by rw [D];split<;>omega
 have Y:-2000<=z:=by rw [D];split<;>omega
 rw [<-D] at q ⊢
 refine ⟨.inl ⟨by omega,by omega⟩,by omega,by omega,by omega,by omega,by omega,q⟩
def S_X:Ex:=λW ds R=>∃(n:Int) (x:Addr) (N B:Nat) (ps:List Int) (ms:List (List Int)),ds=[.int n,.atom (.ref x),.int N,.int B]/\JM W x ms/\M.Tab ps N B ms/\0<n/\n<=2000/\N<=2000/\B<=2000/\(∀y∈ps,y<=n) /\
 ∀D z,JM D x z->M.Tab (n::ps) N B z->R .non D
theorem Dg {i:Int} {n k:Nat} (h:k<n):((pP i n).map D.int).getD k .non=.int (i+(k:Int)):=by
 rw [zw,zN,Cj i n k h];rfl
theorem ux (r:List Int) (t:Nat) (v:Int):(r.map V.int).set t (.int v)=(r.set t v).map V.int:=by rw [List.map_set]
theorem aeQ (T:Zs K mg cs):Zk P w base 2 T.uw S_X:=by
 have YQ:=Vf P w base T
 refine T.uw.F.XR O9 (λW ds R h=>?_) (λcdv A outer s H E C W ds R hK hr h=>?_)
 ·obtain ⟨_,_,_,_,_,_,rfl,_⟩:=h;rfl
 have hu:=hr.units
 obtain ⟨B,x,N,Kk,ps,ms,rfl,⟨bs,U,nx,Tz⟩,hT,p0,p1,n1,k1,hps,q⟩:=h
 refine ⟨_,(fj (tV zL rfl (λW ok=>(sZ rfl T.iz (a2 qi (dz (qv 3) qi)))) (λW ok=>(aK (i:=4) O9.nd rfl lc)) (aV (a_ (λW ok=>(aD (i:=5) O9.nd rfl lc (gW ok hK (qv 1) (qv 4) (λ_ _=>rfl)))))
    (aV (a_ (λW ok=>(aD (i:=6) O9.nd rfl lc (gW ok hK (qv 1) (cH (qv 4) qi) (λ_ _=>rfl)))))
    (fj (tV zL rfl (λW ok=>(gn hK (aq (aj hK T.oR YQ hr.m (aF (qv 0) (a3 (qv 4) (qv 2) (qv 3))))))) (λW ok=>(aK (i:=7) O9.nd rfl lc)) (fj (Ni VD (λW ok=>(qv 5)) (λW ok=>(qv 7)) (λW ok=>(gW ok hK (qv 6) (cH (qv 7) (qv 0)) (λ_ _=>rfl))))))))))),?_⟩
 obtain ⟨I,hI⟩:∃I:Nat->Hp->aO->Prop,I=(λ(i:Nat) W p=>∃(ms:List (List Int)) (w4 w5 w6 Z:Option D),W x=some (.lst (bs.map V.ref))/\vB W bs ms/\M.Fo B ps N Kk i ms/\p=[some (.d (.int B)),some (.d (.atom (.ref x))),some (.d (.int N)),some (.d (.int Kk)),Option.map Sl.d w4,Option.map Sl.d w5,Option.map Sl.d w6,Option.map Sl.d Z]):=⟨_,rfl⟩
 refine mz (n:=Kk) (item:=λi=>.int (1+(i:Int))) (p1:=_) (λQ h=>by
  simp only [Q]
  have e:((Kk:Int)+1 - 1).toNat=Kk:=by omega
  rw [e]
  exact ⟨by omega,by omega,h⟩) I (by rw [hI];exact ⟨ms,none,none,none,none,U,Tz,hT.start,rfl⟩) ?_ ?_
 ·intro i W p hi Y
  rw [hI] at Y
  obtain ⟨ms,w4,w5,w6,Z,U,YS,hT,rfl⟩:=Y
  have hb:bs.length=ms.length:=YS.len
  have hl:=hT.Jq.len
  obtain ⟨b1,e1⟩:∃b,bs[i+1]? = some b:=⟨_,zg (by omega)⟩
  obtain ⟨b0,e0⟩:∃b,bs[i]? = some b:=⟨_,zg (by omega)⟩
  have f1:gA (bs.map V.ref) (1+(i:Int))=some (.ref b1):=fu (by omega) (by rw [show (1+(i:Int)).toNat=i+1 by omega];exact e1)
  have f0:gA (bs.map V.ref) (1+(i:Int) - 1)=some (.ref b0):=fu (by omega) (by rw [show (1+(i:Int) - 1).toNat=i by omega];exact e0)
  simp only [Hg]
  refine bx λkk hkk=>?_
  simp only [R,U,f1]
  refine hkk _ _ ?_
  refine bx λkk hkk=>?_
  simp only [R,U,f0]
  refine hkk _ _ ?_
  refine Nm ?_
  simp only [R,abA]
  refine ⟨by omega,by omega,by omega,by omega,by omega,by omega,by omega,by omega,?_⟩
  obtain ⟨z,hz⟩:∃z:Int,z=(if (N:Int) - (Kk:Int)+(1+(i:Int))<B * (1+(i:Int)) then (N:Int) - (Kk:Int)+(1+(i:Int)) else B * (1+(i:Int))):=⟨_,rfl⟩
  rw [<-hz]
  have z1:z<=(N:Int) - (Kk:Int)+(1+(i:Int)):=by rw [hz];split<;>omega
  have z2:∀t:Int,t<=(N:Int) - (Kk:Int)+(1+(i:Int))->z<t->B * ((i:Int)+1)<t:=λt h1 h2=>by
   rw [xx (i:Int) 1]
   rw [hz] at h2
   split at h2<;>omega
  obtain ⟨n,hn⟩:∃n,n=(z+1 - (B+(1+(i:Int)) - 1)).toNat:=⟨_,rfl⟩
  rw [<-hn]
  obtain ⟨J,hJ⟩:∃J:Nat->Hp->aO->Prop,J=(λ(k:Nat) W p=>∃(ms:List (List Int)) (Z:Option D),W x=some (.lst (bs.map V.ref))/\vB W bs ms/\M.xV B ps N Kk i (B+(i:Int)+(k:Int)) ms/\p=[some (.d (.int B)),some (.d (.atom (.ref x))),some (.d (.int N)),some (.d (.int Kk)),some (.d (.int (1+(i:Int)))),some (.d (.atom (.ref b1))),some (.d (.atom (.ref b0))),Option.map Sl.d Z]):=⟨_,rfl⟩
  refine mz (n:=((pP (B+(1+(i:Int)) - 1) n).map D.int).length) (item:=λk=>((pP (B+(1+(i:Int)) - 1) n).map D.int).getD k .non) (p1:=_) (λQ h=>h) J (by rw [hJ];exact ⟨ms,Z,U,YS,by have:=hT.go p0;simpa using this,rfl⟩) ?_ ?_
  ·intro k W p hk Y
   rw [hJ] at Y
   obtain ⟨ms,Z,U,O,hT,rfl⟩:=Y
   rw [z9,jU] at hk
   rw [Dg hk]
   have ec:B+(1+(i:Int)) - 1+(k:Int)=B+(i:Int)+(k:Int):=by omega
   rw [ec]
   obtain ⟨c,hc⟩:∃c,c=B+(i:Int)+(k:Int):=⟨_,rfl⟩
   rw [<-hc] at hT ⊢
   obtain ⟨g1,g0⟩:=hT.read p0 (by omega) (t0:=c.toNat) (by omega) (by omega) (by omega)
   obtain ⟨r1,s1,y1⟩:=M.jX g1
   obtain ⟨r0,s0,y0⟩:=M.jX g0
   have h1:=O.at_ _ _ _ e1 s1
   have h0:=O.at_ _ _ _ e0 s0
   have x1:(r1.map V.int)[c.toNat]? = some (.int (M.cg true ps (i+1) c)):=by rw [zN,y1];rfl
   have x0:gA (r0.map V.int) (c - B)=some (.int (M.cg true (B::ps) i (c - B))):=jc (by omega) y0
   simp only [R,h1,h0,x1,x0]
   refine ⟨by omega,?_⟩
   rw [hJ,ux]
   have nb:x≠b1:=λe=>nx (by rw [e];exact yn e1)
   refine ⟨_,some (.int c),by rw [aJ nb];exact U,O.wr e1,?_,rfl⟩
   have:=hT.step p0 (by omega) (t0:=c.toNat) (by omega) (by omega) (by omega) s1 rfl
   have e2:B+(i:Int)+((k+1:Nat):Int)=c+1:=by rw [hc];push_cast;omega
   rw [e2]
   exact this
  ·intro W p Y
   rw [hJ] at Y
   obtain ⟨ms,Z,U,O,hT,rfl⟩:=Y
   rw [z9,jU] at hT
   show I (i+1) _ _
   rw [hI]
   refine ⟨ms,some (.int (1+(i:Int))),some _,some _,Z,U,O,hT.fin p0 hps λt h1 h2=>z2 t (by omega) (by omega),rfl⟩
 ·intro W p Y
  rw [hI] at Y
  obtain ⟨ms,w4,w5,w6,Z,U,YS,hT,rfl⟩:=Y
  exact q W ms ⟨bs,U,nx,YS⟩ hT.fin
def S_C:Ex:=λW ds R=>∃(ps:List Int) (N n:Nat),ds=[.lst (ps.map D.int),.int N,.int n]/\N<=2000/\n<=2000/\(∀y∈ps,(0:Int)<y/\y<=2000)/\ps.Pairwise (·<·) /\
 ∀z x ms,JM z x ms->M.Tab ps.reverse N n ms->R (.atom (.ref x)) z
theorem Px {ps:List Int} {i:Nat} (h:i<ps.length):(ps.take (i+1)).reverse=ps.getD i 0::(ps.take i).reverse:=by
 rw [List.take_succ,zg h,yK,zw,zg h];rfl
theorem TF {ps:List Int} (z:ps.Pairwise (·<·)) {i:Nat} (h:i<ps.length):∀y∈(ps.take i).reverse,y<=ps.getD i 0:=λy n=>by
 rw [x8] at n
 obtain ⟨j,B,e⟩:=yJ n
 rw [yq] at B
 rw [List.getElem_take] at e
 have:=List.pairwise_iff_getElem.mp z j i (by omega) h (by omega)
 rw [zw,zg h]
 show y<=ps[i]
 omega
theorem Jy (N n:Nat):(List.replicate (n+1) (List.replicate (N+1) (0:Int))).set 0 ((List.replicate (N+1) (0:Int)).set 0 1)=([1]++List.replicate N 0)::List.replicate n (List.replicate (N+1) 0):=by
 rw [zM,List.set_cons_zero,zM,List.set_cons_zero];rfl
theorem YT (T:Zs K mg cs):Zk P w base 3 T.jh S_C:=by
 have G_X:=aeQ P w base T
 refine T.jh.F.XR YC (λW ds R h=>?_) (λcdv A outer s H E C W ds R hK hr h=>?_)
 ·obtain ⟨_,_,_,rfl,_⟩:=h;rfl
 have hu:=hr.units
 obtain ⟨ps,N,O,rfl,n1,k1,B,hs,q⟩:=h
 refine ⟨_,(aV (Nk (i:=3) YC.nd rfl lc (N:=["size","parts","number","many","rows","part"]) (k:=1) (aU.of (show gQ (aa s_C) ["parts","number","many","rows","part"] _ ["size","parts","number","many","rows","part"] 1 from ⟨by rfl,by decide,by decide,by rfl,by decide,by decide,by decide,by decide⟩)) rfl (λW ok=>(sY rfl T.iz (a1 (dz (qv 2) qi)))) (λW ok Z s H fp=>(d7 (i:=0) (by decide) (show List.Nodup (["size","parts","number","many","rows","part"]:List Str) by decide) rfl (Or.inl rfl) (Or.inr rfl))) (λW ok Z s H fp=>jn) (λW ok Z s H fp=>(aah (aq (bN (a1 qi))) (dz (qv 2) qi))))
    (aV (XM (λW ok=>qi) (λW ok=>(gW ok hK (qv 3) qi (λ_ _=>rfl))) (λW ok=>qi))
    (aV (tV zL rfl (λW ok=>(gn hK (qv 0))) (λW ok=>(aK (i:=4) YC.nd rfl lc)) (fj (Nf (jT hK T.uw G_X hr.m (λW ok=>(aF (qv 4) (a3 (qv 3) (qv 1) (qv 2))))))))
    (fj (a_ (λW ok=>(bU (qz (qv 3))))))))),?_⟩
 refine bx λkk hkk=>?_
 have ez:∀m:Nat,(List.replicate m [D.int 0]).flatten=(List.replicate m (0:Int)).map D.int:=λm=>Mr m 0
 obtain ⟨I,hI⟩:∃I:Nat->List (List Int)->aO->Prop,I=(λ(i:Nat) ys p=>ys=List.replicate i (List.replicate (N+1) 0)/\∃w:Option D,p=[Option.map Sl.d w,some (.d (.lst (ps.map D.int))),some (.d (.int N)),some (.d (.int O)),none,none]):=⟨_,rfl⟩
 refine R6 (n:=O+1) (item:=λi=>.int (i:Int)) (p1:=_) (λQ h=>by
  simp only [Q]
  have e:((O:Int)+1).toNat=O+1:=by omega
  rw [e]
  exact ⟨by omega,by omega,h⟩) (by omega) I (by rw [hI];exact ⟨rfl,none,rfl⟩) (λi ys p h=>by rw [hI] at h;rw [h.1,zD];exact zx _) ?_ ?_
 ·intro i ys p hi B
  rw [hI] at B
  obtain ⟨rfl,w,rfl⟩:=B
  have go:∀p',p'=[some (Sl.d (D.int (i:Int))),some (.d (.lst (ps.map D.int))),some (.d (.int N)),some (.d (.int O)),none,none]->∃ns,(List.replicate ((N:Int)+1).toNat [D.int 0]).flatten=List.map D.int ns/\I (i+1) (List.replicate i (List.replicate (N+1) 0)++[ns]) p':=λp' e=>by
   refine ⟨_,ez _,?_⟩
   rw [hI,show ((N:Int)+1).toNat=N+1 by omega]
   exact ⟨by rw [List.replicate_succ' (n:=i)],some (.int i),e⟩
  cases w<;>(simp only [Q];exact ⟨by omega,by omega,by omega,go _ rfl⟩)
 intro ys p B x W1 U _
 rw [hI] at B
 obtain ⟨rfl,w,rfl⟩:=B
 refine ⟨rfl,hkk _ _ ?_⟩
 obtain ⟨bs,hx,nx,Y⟩:=U
 have hb:=Y.len
 rw [zD] at hb
 obtain ⟨b0,e0⟩:∃b,bs[0]? = some b:=⟨_,zg (by omega)⟩
 have h0:=Y.at_ 0 b0 (List.replicate (N+1) 0) e0 (by rw [zQ,zo (by omega)])
 have f0:gA (bs.map V.ref) 0=some (.ref b0):=fu (by decide) e0
 have i0:Bf ((List.replicate (N+1) (0:Int)).map V.int).length 0=some 0:=by exact rJ (by decide) (by rw [z9,zD];exact Nat.succ_pos _)
 obtain ⟨z0,hz0⟩:∃z,z=List.replicate (N+1) (0:Int):=⟨_,rfl⟩
 rw [<-hz0] at h0 i0
 refine bx λkk hkk=>?_
 simp only [R,hx,f0,h0,i0]
 refine hkk _ _ ?_
 have nb:x≠b0:=λe=>nx (by rw [e];exact yn e0)
 have YS:=Y.wr (ns:=z0.set 0 1) e0
 rw [hz0,Jy] at YS
 have U:JM (upd W1 b0 (.lst ((z0.map V.int).set 0 (.int 1)))) x (([1]++List.replicate N 0)::List.replicate O (List.replicate (N+1) 0)):=⟨bs,by rw [aJ nb];exact hx,nx,by rw [ux,hz0];exact YS⟩
 generalize upd W1 b0 (.lst ((z0.map V.int).set 0 (.int 1)))=W2 at U
 obtain ⟨J,hJ⟩:∃J:Nat->Hp->aO->Prop,J=(λ(i:Nat) W p=>∃(ms:List (List Int)) (w4:Option D),JM W x ms/\M.Tab (ps.take i).reverse N O ms/\p=[some (.d (.lst (ps.map D.int))),some (.d (.int N)),some (.d (.int O)),some (.d (.atom (.ref x))),Option.map Sl.d w4]):=⟨_,rfl⟩
 refine jb (mz (n:=(ps.map D.int).length) (item:=λi=>(ps.map D.int).getD i .non) (p1:=_) (λQ h=>by simp only [Hh];exact h) J (by rw [hJ];exact ⟨_,none,U,M.Tab.nil,rfl⟩) ?_ ?_)
 ·intro i W p hi B
  rw [hJ] at B
  obtain ⟨ms,w4,U,hT,rfl⟩:=B
  rw [z9] at hi
  rw [getD_ints hi]
  have hm:ps.getD i 0∈ps:=by rw [zw,zg hi];exact yg hi
  have g:=B _ hm
  simp only [R,S_X]
  refine ⟨N,rfl,O,rfl,_,ms,U,hT,g.1,g.2,n1,k1,TF hs hi,λW' ms' hM' hT'=>?_⟩
  rw [hJ]
  exact ⟨ms',some _,hM',by rw [Px hi];exact hT',rfl⟩
 ·intro W p B
  rw [hJ] at B
  obtain ⟨ms,w4,U,hT,rfl⟩:=B
  rw [z9,List.take_length] at hT
  simp only [Hh]
  exact q _ _ _ U hT
theorem FQ {b n:Int} (z:0<=n):∀y∈M.bH b n,(0:Int)<y/\y<=n:=λy B=>by
 have:=(M.lq z).mp B
 omega
def S_S:fK:=λas R=>∃(n b:Int) (k:Nat),as=[.d (.int n),.d (.int b),.d (.int k)]/\0<=n/\n<=2000/\2<=b/\b<=36/\k<=2000/\R (.rd (.int (M.cg true (M.bH b n).reverse k n))) as
theorem aeS (T:Zs K mg cs):Ok P w base 5 T.j8 S_S:=by
 have U:=jF P w base T
 have Y:=YT P w base T
 have O:=Pu P w base T
 refine T.j8.F.gU abo (λas R h=>?_) (λcdv A outer s H E C as R D I h=>?_)
 ·obtain ⟨_,_,_,rfl,_⟩:=h;rfl
 have hu:=I.units
 obtain ⟨n,b,k,rfl,J,n1,Z,b1,k1,q⟩:=h
 refine ⟨_,(Ew (aV (a_ (λW ok=>(pJ (aq (aj D T.az U I.m (a1 (qv 1)))))))
    (aV (tW (i:=3) abo.nd rfl lc (jT D T.jh Y I.m (λW ok=>(a3 (aq (aj D T.cP O I.m (a2 (qv 0) (qv 1)))) (qv 0) (qv 2)))))
    (fj (a_ (λW ok=>(bU (qz (gW ok D (gW ok D (qv 3) (qv 2) (λ_ _=>rfl)) (qv 0) (λ_ _=>rfl)))))))))),?_⟩
 show wW _ _ _ _ _
 refine bx λkk z=>?_
 simp only [R,S_a]
 refine ⟨Z,b1,z _ _ ?_⟩
 refine bx λkk z=>?_
 simp only [R,S_d,S_C]
 refine ⟨J,by omega,Z,b1,_,rfl,n.toNat,by omega,k,rfl,by omega,k1,λy hy=>?_,M.jr b n,λW' x ms hM hT=>z _ _ ?_⟩
 ·have:=FQ J y hy
  omega
 obtain ⟨bs,hx,nx,B⟩:=hM
 have hb:=B.len
 have hl:=hT.Jq.len
 have g:=hT.val k n.toNat (zx _) (zx _)
 rw [show ((n.toNat:Nat):Int)=n by omega] at g
 obtain ⟨r,s1,y1⟩:=M.jX g
 obtain ⟨b',e1⟩:∃b',bs[k]? = some b':=⟨_,zg (by omega)⟩
 have f1:gA (bs.map V.ref) (k:Int)=some (.ref b'):=fu (by omega) (by rw [xj];exact e1)
 have h1:=B.at_ _ _ _ e1 s1
 have x1:gA (r.map V.int) n=some (.int (M.cg true (M.bH b n).reverse k n)):=jc J y1
 simp only [R,hx,f1,h1,x1]
 exact q
theorem FT {N K s t:Nat} {n:List (List Int)} (h:M.Shape N K n) (B:s<=K) (z:t<=N):∃r v,n[s]? = some r/\r[t]? = some v:=by
 have I:=h.len
 have e:n[s]? = some n[s]:=zg (by omega)
 have D:=h.row s _ e
 exact ⟨_,_,e,zg (by omega)⟩
theorem Dh {N K n z:Nat} {ms:List (List Int)} (h:M.Shape N K ms) (hN:n<=N) (B:z<=K):M.Shape n z ms:=⟨by have:=h.len;omega,λs r e=>by have:=h.row s r e;omega⟩
def S_I:Ex:=λW ds R=>∃(n:Int) (x:Addr) (N B:Nat) (ms:List (List Int)),ds=[.int n,.atom (.ref x),.int N,.int B]/\JM W x ms/\M.Shape N B ms/\0<n/\n<=2000/\N<=2000/\B<=2000/\∀D z,JM D x z->M.Shape N B z->R .non D
theorem aeT (T:Zs K mg cs):Zk P w base 2 T.mV S_I:=by
 have YQ:=Vf P w base T
 refine T.mV.F.XR O_ (λW ds R h=>?_) (λcdv A outer s H E C W ds R hK hr h=>?_)
 ·obtain ⟨_,_,_,_,_,rfl,_⟩:=h;rfl
 have hu:=hr.units
 obtain ⟨B,x,N,Kk,ms,rfl,⟨bs,U,nx,Tz⟩,hT,p0,p1,n1,k1,q⟩:=h
 refine ⟨_,(fj (tV zL rfl (λW ok=>(X4 rfl T.mG rfl T.iz (a2 qi (dz (qv 3) qi)))) (λW ok=>(aK (i:=4) O_.nd rfl lc)) (aV (a_ (λW ok=>(aD (i:=5) O_.nd rfl lc (gW ok hK (qv 1) (qv 4) (λ_ _=>rfl)))))
    (aV (a_ (λW ok=>(aD (i:=6) O_.nd rfl lc (gW ok hK (qv 1) (cH (qv 4) qi) (λ_ _=>rfl)))))
    (fj (tV zL rfl (λW ok=>(gn hK (aq (aj hK T.oR YQ hr.m (aF (qv 0) (a3 (qv 4) (qv 2) (qv 3))))))) (λW ok=>(aK (i:=7) O_.nd rfl lc)) (fj (Ni VF (λW ok=>(qv 5)) (λW ok=>(qv 7)) (λW ok=>(gW ok hK (qv 6) (cH (qv 7) (qv 0)) (λ_ _=>rfl))))))))))),?_⟩
 obtain ⟨I,hI⟩:∃I:Nat->Hp->aO->Prop,I=(λ(i:Nat) W p=>∃(ms:List (List Int)) (w4 w5 w6 Y:Option D),W x=some (.lst (bs.map V.ref))/\vB W bs ms/\M.Shape N Kk ms/\p=[some (.d (.int B)),some (.d (.atom (.ref x))),some (.d (.int N)),some (.d (.int Kk)),Option.map Sl.d w4,Option.map Sl.d w5,Option.map Sl.d w6,Option.map Sl.d Y]):=⟨_,rfl⟩
 refine mz (n:=Kk) (item:=λi=>.int ((Kk:Int) - (i:Int))) (p1:=_) (λQ h=>by
  simp only [Q]
  have e:((Kk:Int)+1 - 1).toNat=Kk:=by omega
  rw [e]
  have e2:∀k:Nat,(1:Int)+(Kk:Int) - 1 - (k:Int)=(Kk:Int) - (k:Int):=λk=>by omega
  simp only [e2]
  exact ⟨by omega,by omega,h⟩) I (by rw [hI];exact ⟨ms,none,none,none,none,U,Tz,hT,rfl⟩) ?_ ?_
 ·intro i W p hi hp
  rw [hI] at hp
  obtain ⟨ms,w4,w5,w6,Y,U,Z,hT,rfl⟩:=hp
  obtain ⟨J,hi0⟩:∃J:Nat,J+1+i=Kk:=⟨Kk - i - 1,by omega⟩
  rw [show (Kk:Int) - (i:Int)=1+(J:Int) by omega]
  have hb:bs.length=ms.length:=Z.len
  have hl:=hT.len
  obtain ⟨b1,e1⟩:∃b,bs[J+1]? = some b:=⟨_,zg (by omega)⟩
  obtain ⟨b0,e0⟩:∃b,bs[J]? = some b:=⟨_,zg (by omega)⟩
  have f1:gA (bs.map V.ref) (1+(J:Int))=some (.ref b1):=fu (by omega) (by rw [show (1+(J:Int)).toNat=J+1 by omega];exact e1)
  have f0:gA (bs.map V.ref) (1+(J:Int) - 1)=some (.ref b0):=fu (by omega) (by rw [show (1+(J:Int) - 1).toNat=J by omega];exact e0)
  simp only [Hh]
  refine ⟨_,_,_,_,rfl,U,rfl,f1,?_⟩
  simp only [Hh]
  refine ⟨_,_,_,_,rfl,U,rfl,f0,?_⟩
  simp only [Ho]
  simp only [Ho]
  dsimp only
  refine Nm ?_
  simp only [Hh]
  refine ⟨by omega,by omega,by omega,by omega,by omega,by omega,by omega,by omega,?_⟩
  simp only [Hh]
  obtain ⟨z,hz⟩:∃z:Int,z=(if (N:Int) - (Kk:Int)+(1+(J:Int))<B * (1+(J:Int)) then (N:Int) - (Kk:Int)+(1+(J:Int)) else B * (1+(J:Int))):=⟨_,rfl⟩
  rw [<-hz]
  have z1:z<=(N:Int) - (Kk:Int)+(1+(J:Int)):=by rw [hz];split<;>omega
  obtain ⟨n,hn⟩:∃n,n=(z+1 - (B+(1+(J:Int)) - 1)).toNat:=⟨_,rfl⟩
  rw [<-hn]
  refine mz (n:=((pP (B+(1+(J:Int)) - 1) n).map D.int).length) (item:=λk=>((pP (B+(1+(J:Int)) - 1) n).map D.int).getD k .non) (p1:=_) (λQ h=>h) (λ_ W p=>∃(ms:List (List Int)) (Y:Option D),W x=some (.lst (bs.map V.ref))/\vB W bs ms/\M.Shape N Kk ms/\p=[some (.d (.int B)),some (.d (.atom (.ref x))),some (.d (.int N)),some (.d (.int Kk)),some (.d (.int (1+(J:Int)))),some (.d (.atom (.ref b1))),some (.d (.atom (.ref b0))),Option.map Sl.d Y]) ⟨ms,Y,U,Z,hT,rfl⟩ ?_ ?_
  ·intro k W p hk hp
   obtain ⟨ms,Y,U,O,hT,rfl⟩:=hp
   rw [z9,jU] at hk
   rw [Dg hk]
   obtain ⟨c,hc⟩:∃c,c=B+(1+(J:Int)) - 1+(k:Int):=⟨_,rfl⟩
   rw [<-hc]
   obtain ⟨r1,v1,s1,y1⟩:=FT hT (s:=J+1) (t:=c.toNat) (by omega) (by omega)
   obtain ⟨r0,v0,s0,y0⟩:=FT hT (s:=J) (t:=(c - B).toNat) (by omega) (by omega)
   have h1:=O.at_ _ _ _ e1 s1
   have h0:=O.at_ _ _ _ e0 s0
   have x1:(r1.map V.int)[c.toNat]? = some (.int v1):=by rw [zN,y1];rfl
   have x0:gA (r0.map V.int) (c - B)=some (.int v0):=jc (by omega) y0
   have nb:x≠b1:=λe=>nx (by rw [e];exact yn e1)
   simp only [Hh]
   refine ⟨_,_,_,_,rfl,h1,rfl,by omega,x1,?_⟩
   simp only [Hh]
   refine ⟨_,_,_,_,rfl,h0,rfl,x0,?_⟩
   simp only [Hh]
   have ww:=O.wr (ns:=r1.set c.toNat (v1 - v0)) e1
   rw [<-ux] at ww
   exact ⟨ms.set (J+1) (r1.set c.toNat (v1 - v0)),some (.int c),by rw [aJ nb];exact U,ww,hT.set s1,rfl⟩
  ·intro W p hp
   obtain ⟨ms,Y,U,O,hT,rfl⟩:=hp
   show I (i+1) _ _
   rw [hI]
   exact ⟨ms,some (.int (1+(J:Int))),some _,some _,Y,U,O,hT,rfl⟩
 ·intro W p hp
  rw [hI] at hp
  obtain ⟨ms,w4,w5,w6,Y,U,Z,hT,rfl⟩:=hp
  exact q W ms ⟨bs,U,nx,Z⟩ hT
def S_q:Ex:=λW ds R=>∃(n:Int) (x:Addr) (N z:Nat) (ms:List (List Int)),ds=[.int n,.atom (.ref x),.int N,.int z]/\JM W x ms/\M.Shape N z ms/\0<n/\∀v:Int,(z=0\/(N:Int)<n->v=0)->R (.int v) W
theorem aeV (T:Zs K mg cs):Zk P w base 1 T.dj S_q:=by
 refine T.dj.F.XR aeA (λW ds R h=>?_) (λcdv A outer s H E C W ds R J hr h=>?_)
 ·obtain ⟨_,_,_,_,_,rfl,_⟩:=h;rfl
 have Z:=hr.units
 obtain ⟨n,x,N,B,ms,rfl,⟨bs,Y,nx,D⟩,hT,p0,q⟩:=h
 refine ⟨_,(aV (a_ (λW ok=>(bA (PW.pt (w_or (gF J Z (qv 3) qi) (jB (Ec (qv 0) (qv 2))))) (sr qi) aQ)))
    (fj (a_ (λW ok=>(bU (qz (gW ok J (gW ok J (qv 1) (cH (qv 3) qi) (λ_ _=>rfl)) (cH (qv 2) (qv 0)) (λ_ _=>rfl)))))))),?_⟩
 refine bx λkk I=>?_
 by_cases c:B=0\/(N:Int)<n
 ·have q:=q 0 λ_=>rfl
  simp only [R]
  by_cases k0:(B:Int)=0
  ·rw [zo k0];exact q
  ·rw [zh k0,zo (by omega)];exact q
 ·simp only [R]
  rw [zh (by omega),zh (by omega)]
  refine I _ _ ?_
  have hb:=D.len
  have hl:=hT.len
  obtain ⟨r,v,U,O⟩:=FT hT (s:=B - 1) (t:=((N:Int) - n).toNat) (by omega) (by omega)
  obtain ⟨b',e1⟩:∃b',bs[B - 1]? = some b':=⟨_,zg (by omega)⟩
  have f1:gA (bs.map V.ref) ((B:Int) - 1)=some (.ref b'):=fu (by omega) (by rw [show ((B:Int) - 1).toNat=B - 1 by omega];exact e1)
  simp only [Hh]
  refine ⟨_,_,_,_,rfl,Y,rfl,f1,?_⟩
  simp only [Hh]
  refine ⟨_,_,_,_,rfl,D.at_ _ _ _ e1 U,rfl,jc (by omega) O,?_⟩
  simp only [Hh]
  exact q v λz=>absurd z c
theorem Jz {qs:List Int} {i:Nat} (h:i<qs.length):∃y,(qs.map D.int).getD (qs.length - 1 - i) .non=.int y/\y∈qs:=by
 have h':qs.length - 1 - i<qs.length:=by omega
 exact ⟨qs[qs.length - 1 - i],by rw [zw,zN,zg h'];rfl,yg h'⟩
def S_x:fK:=λas R=>∃(n b pl:Int) (k:Nat),as=[.d (.int n),.d (.int b),.d (.int k),.d (.int pl)]/\0<=n/\n<=2000/\2<=b/\b<=36/\k<=2000/\0<=pl/\pl<M.cg true (M.bH b n).reverse k n/\∀L:List Int,(∀x∈L,1<=x/\x<=n)->L.length<=k->R (.ro (L.map D.int)) as
theorem aeW (T:Zs K mg cs):Ok P w base 5 T.ji S_x:=by
 have Ak:=jF P w base T
 have G_d:=Pu P w base T
 have G_C:=YT P w base T
 have G_q:=aeV P w base T
 have G_I:=aeT P w base T
 have G_s:=Pk P w base T
 refine T.ji.F.gU oM (λas R h=>?_) (λcdv A outer s H E C as R U hr h=>?_)
 ·obtain ⟨_,_,_,_,rfl,_⟩:=h;rfl
 have hu:=hr.units
 obtain ⟨n,b,pl,k,rfl,n0,n1,b0,b1,k1,l0,l1,q⟩:=h
 obtain ⟨N,rfl⟩:∃N:Nat,n=(N:Int):=⟨n.toNat,by omega⟩
 have bd:=FQ (b:=b) (n:=(N:Int)) (by omega)
 refine ⟨_,(Ew (aV (a_ (λW ok=>(pJ (aq (aj U T.az Ak hr.m (a1 (qv 1)))))))
    (aV (a_ (λW ok=>(bA (PW.pt (w_or (eN (eZ (aq (aj U T.eF G_s hr.m (a1 (qv 3)))))) (jB (uK (qv 3) qi)))) (aH pK) aQ)))
    (aV (a_ (λW ok=>(aD (i:=4) oM.nd rfl lc (aq (aj U T.cP G_d hr.m (a2 (qv 0) (qv 1)))))))
    (aV (tW (i:=5) oM.nd rfl lc (jT U T.jh G_C hr.m (λW ok=>(a3 (qv 4) (qv 0) (qv 2)))))
    (aV (a_ (λW ok=>(bA (Lp (qv 3) (gW ok U (gW ok U (qv 5) (qv 2) (λ_ _=>rfl)) (qv 0) (λ_ _=>rfl))) (aH pK) aQ)))
    (aV (a_ (λW ok=>(iG (i:=6) oM.nd rfl lc (bN e_))))
    (aV (a_ (λW ok=>(aD (i:=7) oM.nd rfl lc (qv 0))))
    (aV (a_ (λW ok=>(aD (i:=8) oM.nd rfl lc (qv 3))))
    (aV (tV zL rfl (λW ok=>(Ux U rfl T.mG (a1 (qv 4)))) (λW ok=>(aK (i:=9) oM.nd rfl lc)) (aV (tW (i:=10) oM.nd rfl lc (jT U T.dj G_q hr.m (λW ok=>(aF (qv 9) (a3 (qv 5) (qv 7) (cH (qv 2) (gm U rfl T.fL (a1 (qv 6)))))))))
    (aV (R3 zL (λW ok=>(uK (qv 8) (qv 10))) (aV (a_ (λW ok=>(pJ (iY U (pv 6) (a1 (qv 9))))))
    (aV (a_ (λW ok=>(W7 (i:=7) oM.nd rfl lc (qv 9))))
    (fj (tW (i:=10) oM.nd rfl lc (jT U T.dj G_q hr.m (λW ok=>(aF (qv 9) (a3 (qv 5) (qv 7) (cH (qv 2) (gm U rfl T.fL (a1 (qv 6)))))))))))))
    (aV (a_ (λW ok=>(W7 (i:=8) oM.nd rfl lc (qv 10))))
    (fj (Nf (jT U T.mV G_I hr.m (λW ok=>(aF (qv 9) (a3 (qv 5) (qv 7) (cH (qv 2) (gm U rfl T.fL (a1 (qv 6))))))))))))))
    (fj (a_ (λW ok=>(pL (i:=6) (pv 6))))))))))))))),?_⟩
 simp only [Hh]
 refine ⟨b0,b1,?_⟩
 simp only [Hh]
 refine pU (λc=>absurd l0 (by omega)) (λc=>?_)
 simp only [Hh]
 refine ⟨by omega,by omega,b0,b1,?_⟩
 simp only [Hh]
 refine ⟨by omega,k1,λy Z=>?_,M.jr b N,λW' x ms Y hT=>?_⟩
 ·have:=bd y Z
  omega
 have hM':=Y
 obtain ⟨bs,hx,nx,Tz⟩:=hM'
 have hb:=Tz.len
 have hl:=hT.Jq.len
 obtain ⟨r,s1,y1⟩:=M.jX (hT.val k N (zx _) (zx _))
 obtain ⟨b',e1⟩:∃b',bs[k]? = some b':=⟨_,zg (by omega)⟩
 simp only [Hh]
 refine ⟨_,_,_,_,rfl,hx,rfl,fu (by omega) (by rw [xj];exact e1),?_⟩
 simp only [Hh]
 refine ⟨_,_,_,_,rfl,Tz.at_ _ _ _ e1 s1,rfl,jc (by omega) (by rw [xj];exact y1),?_⟩
 simp only [Hh]
 refine pU (λc=>absurd l1 (by omega)) (λc=>?_)
 dsimp only [GD]
 refine jb ?_
 simp only [Ho]
 simp only [Ho]
 simp only [Ho]
 dsimp only
 refine jb ?_
 simp only [Ho]
 simp only [Ho]
 simp only [Ho]
 dsimp only
 refine jb ?_
 simp only [Ho]
 simp only [Ho]
 simp only [Ho]
 dsimp only
 have hS:=hT.Jq
 clear hT hb hl s1 y1 e1 hx nx Tz
 generalize M.bH b (N:Int)=qs at bd ⊢
 obtain ⟨I,hI⟩:∃I:Nat->Hp->aO->Prop,I=(λ(_:Nat) W p=>∃(ms:List (List Int)) (way:List Int) (z B:Nat) (ah:Int) (w9 w10:Option D),JM W x ms/\M.Shape z B ms/\z<=N/\way.length+B=k/\0<=ah/\(∀y∈way,1<=y/\y<=(N:Int)) /\
  p=[some (.d (.int N)),some (.d (.int b)),some (.d (.int k)),some (.d (.int pl)),some (.d (.lst (qs.map D.int))),some (.d (.atom (.ref x))),some (.own (way.map D.int)),some (.d (.int z)),some (.d (.int ah)),Option.map Sl.d w9,Option.map Sl.d w10]):=⟨_,rfl⟩
 refine jb (mz (n:=(qs.map D.int).length) (item:=λi=>(qs.map D.int).getD ((qs.map D.int).length - 1 - i) .non) (p1:=_) (λQ h=>by simp only [Q];exact h) I (by rw [hI];exact ⟨ms,[],N,k,pl,none,none,Y,hS,zx _,by simp,l0,λy Z=>absurd Z yQ,rfl⟩) ?_ ?_)
 ·intro i W p hi hp
  rw [hI] at hp
  obtain ⟨ms,way,z,B,ah,w9,w10,Y,hS,hN',hk',a0,hw,rfl⟩:=hp
  rw [z9] at hi ⊢
  obtain ⟨pt,ep,hm⟩:=Jz hi
  rw [ep]
  obtain ⟨p0,p1⟩:=bd _ hm
  simp only [R]
  refine bx λkk O=>?_
  simp only [R,S_q]
  refine ⟨z,rfl,B,by rw [z9];omega,ms,Y,hS,p0,λv hv=>O _ _ ?_⟩
  obtain ⟨J,hJ⟩:∃J:Hp->aO->Prop,J=(λW p=>∃(ms:List (List Int)) (way:List Int) (z B:Nat) (v:Int),JM W x ms/\M.Shape z B ms/\z<=N/\way.length+B=k/\(∀y∈way,1<=y/\y<=(N:Int))/\(B=0\/(z:Int)<pt->v=0) /\
   p=[some (.d (.int N)),some (.d (.int b)),some (.d (.int k)),some (.d (.int pl)),some (.d (.lst (qs.map D.int))),some (.d (.atom (.ref x))),some (.own (way.map D.int)),some (.d (.int z)),some (.d (.int ah)),some (.d (.int pt)),some (.d (.int v))]):=⟨_,rfl⟩
  refine jb (Np J (λp=>match p[6]? with|some (some (Sl.own xs))=>k - xs.length|_=>0) (by rw [hJ];exact ⟨ms,way,z,B,v,Y,hS,hN',hk',hw,hv,rfl⟩) ?_)
  intro W1 p1 hp1
  rw [hJ] at hp1
  obtain ⟨ms,way,z,B,v,Y,hS,hN',hk',hw,hv,rfl⟩:=hp1
  simp only [R]
  by_cases c:ah<v
  ·rw [zo c]
   have c1:0<B/\pt<=(z:Int):=by omega
   refine bx λkk O=>?_
   simp only [R]
   refine ⟨by rw [z9];omega,O _ _ ?_⟩
   refine bx λkk O=>?_
   simp only [R]
   refine O _ _ ?_
   have ew:way.map D.int++[D.int pt]=(way++[pt]).map D.int:=by rw [yf];rfl
   rw [ew]
   have lw:(way++[pt]).length=way.length+1:=by rw [zj];rfl
   simp only [R,S_q]
   refine ⟨(z:Int).toNat - pt.toNat,by omega,B - 1,by rw [z9,lw];omega,ms,Y,Dh hS (by omega) (by omega),p0,λv' hv'=>?_⟩
   have en:(((z:Int).toNat - pt.toNat:Nat):Int)=(z:Int) - pt:=by omega
   refine ⟨?_,by rw [z9,lw,z9];omega⟩
   rw [hJ]
   refine ⟨ms,way++[pt],(z:Int).toNat - pt.toNat,B - 1,v',Y,Dh hS (by omega) (by omega),by omega,by omega,λy Z=>?_,hv',by rw [en]⟩
   rcases zK.mp Z with Z|Z
   ·exact hw y Z
   ·rw [zr.mp Z];exact ⟨p0,p1⟩
  ·rw [zh c]
   refine bx λkk O=>?_
   simp only [R]
   refine O _ _ ?_
   simp only [R,S_I]
   refine ⟨z,rfl,B,by rw [z9];omega,ms,Y,hS,p0,by omega,by omega,by omega,λW' ms' hM' hS'=>?_⟩
   show I (i+1) _ _
   rw [hI]
   exact ⟨ms',way,z,B,ah - v,some _,some _,hM',hS',hN',hk',by omega,hw,rfl⟩
 ·intro W p hp
  rw [hI] at hp
  obtain ⟨ms,way,z,B,ah,w9,w10,Y,hS,hN',hk',a0,hw,rfl⟩:=hp
  simp only [Q]
  exact q way hw (by omega)
def aeZ:fK:=λas R=>∃n b:Int,as=[.d (.int n),.d (.int b)]/\0<=n/\n<=10 ^ 6/\2<=b/\b<=36/\R (.ro ((M.tw b n).map λx=>D.lst [.int (n - x),.int x])) as
theorem Py {b n:Int} (B:2<=b) (z:b<=36) (D:0<=n) (n1:n<=10 ^ 6):(M.bH b (n / 2)).length<80000/\∀i,i<(M.bH b (n / 2)).length->1<=(M.bH b (n / 2)).getD i 0/\(M.bH b (n / 2)).getD i 0<=n / 2/\M.dh b ((M.bH b (n / 2)).getD i 0)=true:=by
 have h1:=M.n_ b (n / 2)
 have h2:=M.xQ (n:=n / 2) B z (by omega) (by omega)
 refine ⟨by omega,λi hi=>?_⟩
 refine (M.lq (by omega)).mp ?_
 rw [zw,zg hi];exact yg hi
theorem abB (T:Zs K mg cs):Ok P w base 5 T.ur aeZ:=by
 have U:=jF P w base T
 have O:=Pu P w base T
 have J:=Pq P w base T
 refine T.ur.F.gU abl (λas R h=>?_) (λcdv A outer s H E C as R B z h=>?_)
 ·obtain ⟨_,_,rfl,_⟩:=h;rfl
 have hu:=z.units
 obtain ⟨n,b,rfl,Y,n1,I,b1,q⟩:=h
 have nB:n<M.uQ:=M.Fj (Int.le_trans n1 (by decide))
 obtain ⟨lm,am⟩:=Py I b1 Y n1
 have fr:=M.xW (λx=>M.dh b (n - x)) (λx=>D.lst [.int (n - x),.int x]) (M.bH b (n / 2))
 unfold M.tw at q
 rw [<-fr] at q
 generalize hG:M.bH b (n / 2)=xs at *
 refine ⟨_,(bf (pJ (aq (aj B T.az U z.m (a1 (qv 1)))))
    (aH (bU (pN (N:=["lesser","number","base"]) (k:=1) (aU.of (show gQ (aa Yz) ["number","base"] _ ["lesser","number","base"] 1 from ⟨by rfl,by decide,by decide,by rfl,by decide,by decide,by decide,by decide⟩)) rfl (gn B (aq (aj B T.cP O z.m (a2 (jm (qv 0) qi) (qv 1))))) (λZ s H fp=>(d7 (i:=0) (by decide) (show List.Nodup (["lesser","number","base"]:List Str) by decide) rfl (Or.inl rfl) (Or.inr rfl))) (λZ s H fp=>(Xd (eZ (aq (aj B T.cO J z.m (a2 (cH (qv 1) (qv 0)) (qv 2))))))) (λZ s H fp=>(aq (bN (a2 (cH (qv 1) (qv 0)) (qv 0))))))))),?_⟩
 refine d8 ?_
 simp only [R,S_a]
 refine ⟨I,b1,?_⟩
 simp only [S]
 refine BW (n:=xs.length) (item:=λi=>(xs.map D.int).getD i .non) (p1:=_) (λQ h=>by
   simp only [Q,S_d,hG,z9]
   exact ⟨by omega,by omega,I,b1,h⟩) (by omega) (λi=>M.dh b (n - xs.getD i 0)) (λi=>.lst [.int (n - xs.getD i 0),.int (xs.getD i 0)]) (λi R hi h=>?_) (λi R hi hf h=>?_) ?_
 ·obtain ⟨a1,a2,a3⟩:=am i hi
  rw [getD_ints hi] at h ⊢
  simp only [Q,S_i]
  exact ⟨by omega,by omega,I,b1,h⟩
 ·rw [getD_ints hi] at h ⊢
  simp only [Q]
  exact h
 simp only [Q]
 exact q
def S_K:fK:=λas R=>∃n b:Int,as=[.d (.int n),.d (.int b)]/\0<=n/\n<=10 ^ 6/\2<=b/\b<=36/\R (.rd (.int ((M.tw b n).length:Int))) as
theorem ae0 (T:Zs K mg cs):Ok P w base 6 T.iQ S_K:=by
 have J:=jF P w base T
 have z:=abB P w base T
 refine T.iQ.F.gU aev (λas R h=>?_) (λY A outer s H E C as R I B h=>?_)
 ·obtain ⟨_,_,rfl,_⟩:=h;rfl
 have Z:=B.units
 obtain ⟨n,b,rfl,U,n1,O,b1,q⟩:=h
 refine ⟨_,(bf (pJ (aq (aj I T.az J B.m (a1 (qv 1)))))
    (sr (gm I rfl T.fL (a1 (aq (aj I T.ur z B.m (a2 (qv 0) (qv 1)))))))),?_⟩
 simp only [Hh]
 refine ⟨O,b1,?_⟩
 simp only [Hh]
 refine ⟨U,n1,O,b1,?_⟩
 simp only [Hh]
 rw [show (M.tw b n).length=((M.tw b n).map λx=>D.lst [.int (n - x),.int x]).length by rw [z9]] at q
 exact q
def kn (xs:List Int):D:=.lK (xs.map Sum.inl) (xs.map λ_=>D.bl true)
theorem TJ {b N x:Int} (hN:0<=N) (h1:1<=x) (h2:x<=N):tK (Sum.inl x) ((M.bH b N).map Sum.inl)=M.dh b x:=by
 cases n:M.dh b x with
 | true=>exact tM.mpr (zV.mpr ⟨x,(M.lq hN).mpr ⟨h1,h2,n⟩,rfl⟩)
 | false=>
  cases z:tK (Sum.inl x) ((M.bH b N).map Sum.inl) with
  | false=>rfl
  | true=>
   obtain ⟨y,h3,h4⟩:=zV.mp (tM.mp z)
   cases h4
   have:=((M.lq hN).mp h3).2.2
   rw [n] at this;cases this
theorem Pz {b N:Int} (hN:0<=N) {i:Nat} (hi:i<(M.bH b N).length):1<=(M.bH b N).getD i 0/\(M.bH b N).getD i 0<=N/\M.dh b ((M.bH b N).getD i 0)=true:=by
 refine (M.lq hN).mp ?_
 rw [zw,zg hi];exact yg hi
theorem Ad {b N x:Int} (hN:0<=N) (h1:1<=x) (h2:x<=N) (h3:M.dh b x=true):∃j,j<(M.bH b N).length/\(M.bH b N).getD j 0=x:=by
 obtain ⟨j,n,e⟩:=yJ ((M.lq hN).mpr ⟨h1,h2,h3⟩)
 exact ⟨j,n,by rw [zw,zg n];exact e⟩
theorem uy {b N:Int} {i j:Nat} (h:i<j) (n:j<(M.bH b N).length):(M.bH b N).getD i 0<(M.bH b N).getD j 0:=by
 have:=List.pairwise_iff_getElem.mp (M.jr b N) i j (by omega) n h
 rw [zw,zg (show i<(M.bH b N).length by omega),zw,zg n]
 exact this
theorem oU {b N:Int} (B:2<=b) (z:b<=36) (hN:0<=N) (n:N<=10 ^ 6):(M.bH b N).length<80000:=by
 have h1:=M.n_ b N
 have h2:=M.xQ B z hN n
 omega
def S_z:fK:=λas R=>∃(n b N:Int),as=[.d (.int n),.d (.lst ((M.bH b N).map D.int)),.d (kn (M.bH b N))]/\0<=n/\n<=N/\N<=10 ^ 6/\2<=b/\b<=36/\(¬M.Sm b 2 n->R (.rd .non) as)/\∀L,M.Gt b 2 n L->R (.ro (L.map D.int)) as
theorem PB {b n:Int} (h:M.Sm b 2 n):∃q,1<=q/\M.dh b q=true/\2 * q<=n/\M.dh b (n - q)=true:=by
 obtain ⟨L,w⟩:=h.way
 obtain ⟨p,r,rfl⟩:=w.cons
 obtain ⟨B,p1,I,J⟩:=w.head
 obtain ⟨q,O,rfl⟩:=B.cons
 obtain ⟨z,q1,D,_⟩:=B.head
 have:=z.sum
 rw [yO.mp z.len] at this
 have e:n - p - q=0:=by simpa using this.symm
 have U:=J q zt
 exact ⟨q,q1,D,by omega,by rw [show n - q=p by omega];exact I⟩
theorem ae1 (T:Zs K mg cs):Ok P w base 1 T.gr S_z:=by
 refine T.gr.F.gU YB (λas R h=>?_) (λcdv A outer s H E C as R hK hr h=>?_)
 ·obtain ⟨_,_,_,rfl,_⟩:=h;rfl
 have hu:=hr.units
 obtain ⟨n,b,N,rfl,n0,n1,N6,b0,b1,q1,q2⟩:=h
 have U:0<=N:=by omega
 have lm:=oU b0 b1 U N6
 refine ⟨_,(bf (qF zL rfl (gn hK (qv 1)) (aK (i:=3) YB.nd rfl lc) (bf (aD (i:=4) YB.nd rfl lc (cH (qv 0) (qv 3)))
    (bf (bA (uK (qv 4) (qv 3)) (sr (dY jk (λ_=>.non))) aQ)
    (aH (bA (RN hu (qv 4) (qv 2)) (aH (bU (bN (a2 (qv 4) (qv 3))))) aQ)))))
    (sr (dY jk (λ_=>.non)))),?_⟩
 obtain ⟨I,Y⟩:∃I:Nat->aO->Prop,I=(λi p=>∃w3 w4:Option D,(∀j,j<i->M.dh b (n - (M.bH b N).getD j 0)=false/\2 * (M.bH b N).getD j 0<=n)/\p=[some (.d (.int n)),some (.d (.lst ((M.bH b N).map D.int))),some (.d (kn (M.bH b N))),Option.map Sl.d w3,Option.map Sl.d w4]):=⟨_,rfl⟩
 refine d8 (vo (n:=((M.bH b N).map D.int).length) (item:=λi=>((M.bH b N).map D.int).getD i .non) (p1:=_) (λQ h=>by simp only [Hh];exact h) I (by rw [Y];exact ⟨none,none,λj J=>absurd J (by omega),rfl⟩) ?_ ?_)
 ·intro i p hi O
  rw [Y] at O
  obtain ⟨w3,w4,h0,rfl⟩:=O
  rw [z9] at hi
  obtain ⟨x1,x2,x3⟩:=Pz U hi
  rw [getD_ints hi]
  generalize hx:(M.bH b N).getD i 0=x at *
  have B:∀q,1<=q->M.dh b q=true->q<x->M.dh b (n - q)=false:=λq a1 a2 a3=>by
   obtain ⟨j,J,e⟩:=Ad U a1 (by omega) a2
   have hji:j<i:=by
    by_cases z:j<i
    ·exact z
    ·by_cases z2:j=i
     ·rw [z2,hx] at e;omega
     ·have:=uy (b:=b) (N:=N) (show i<j by omega) J
      rw [hx,e] at this
      omega
   have:=(h0 j hji).1
   rw [e] at this;exact this
  simp only [Hh]
  refine pU (λc=>?_) (λc=>?_)
  ·simp only [Hh]
   refine q1 λs=>?_
   obtain ⟨q,a1,a2,a3,Z⟩:=PB s
   have:=B q a1 a2 (by omega)
   rw [this] at Z;cases Z
  ·simp only [Hh]
   rw [TJ U (by omega) (by omega)]
   refine aaZ (λc2=>?_) (λc2=>?_)
   ·simp only [Hh]
    refine q2 [n - x,x] (.cons (by omega) c2 (.cons x1 x3 (by rw [show n - (n - x) - x=0 by omega];exact .nil) λq a1 a2 s=>?_) λq a1 a2 s=>?_)
    ·have:=s.none;omega
    ·obtain ⟨r,c1,c2',c3,c4⟩:=s.cut
     have e:=c4.none
     have:=B (n - q) (by omega) (by rw [show n - q=r by omega];exact c2') (by omega)
     rw [show n - (n - q)=q by omega,a2] at this;cases this
   ·show I (i+1) _
    rw [Y]
    refine ⟨some (.int x),some (.int (n - x)),λj J=>?_,rfl⟩
    by_cases z:j=i
    ·subst z
     rw [hx]
     exact ⟨c2,by omega⟩
    ·exact h0 j (by omega)
 ·intro p O
  rw [Y] at O
  obtain ⟨w3,w4,h0,rfl⟩:=O
  simp only [Hh]
  refine q1 λs=>?_
  obtain ⟨q,a1,a2,a3,Z⟩:=PB s
  obtain ⟨j,J,e⟩:=Ad U a1 (by omega) a2
  have:=(h0 j (by rw [z9];exact J)).1
  rw [e,Z] at this;cases this
def JB (z:Nat):fK:=λas R=>∃(n b N:Int) (m:Nat),as=[.d (.int n),.d (.int ((m:Nat):Int)),.d (.lst ((M.bH b N).map D.int)),.d (kn (M.bH b N))]/\0<=n/\n<=N/\N<=10 ^ 6/\2<=b/\b<=36/\2<=m/\m<=z/\m<=1000/\(¬M.Sm b m n->R (.rd .non) as)/\∀L,M.Gt b m n L->R (.ro (L.map D.int)) as
def S_o:fK:=JB 20
theorem YW {b n:Int} {m:Nat} {L:List Int} (h:M.Gt b m n L):L.length=m:=h.way.len
theorem abC (T:Zs K mg cs):∀O:Nat,Ok P w base (2+O) T.cA (JB O):=by
 intro O
 have G_z:=ae1 P w base T
 induction O with
 | zero=>
  refine bV.imp (sp:=Jb K (JB 0)) (T.cA.F.gU Tj (λas R h=>?_) (λcdv A outer s H E C as R Z hr h=>?_)) (λ_ _ _ _ h=>h)
  ·obtain ⟨_,_,_,_,rfl,_⟩:=h;rfl
  ·obtain ⟨n,b,N,m,rfl,_,_,_,_,_,h1,h2,_,_⟩:=h;omega
 | succ O ih=>
  have G_o:=ih
  refine T.cA.F.gU (k:=2+O) Tj (λas R h=>?_) (λcdv A outer s H E C as R Z hr h=>?_)
  ·obtain ⟨_,_,_,_,rfl,_⟩:=h;rfl
  have hu:=hr.units
  obtain ⟨n,b,N,m,rfl,n0,n1,N6,b0,b1,m2,m3,m4,q1,q2⟩:=h
  have N0:0<=N:=by omega
  have lm:=oU b0 b1 N0 N6
  refine ⟨_,(bf (bA (gF Z hu (qv 1) qi) (aH (bU (aj Z T.gr G_z hr.m (a3 (qv 0) (qv 2) (qv 3))))) aQ)
    (bf (qF zL rfl (Ux Z rfl T.mG (a1 (qv 2))) (aK (i:=4) Tj.nd rfl lc) (bf (bA (uK (qy (qv 4) (qv 1)) (qv 0)) (sr (dY jk (λ_=>.non))) aQ)
    (aH (bA (uK (qv 4) (qv 0)) (bf (aD (i:=5) Tj.nd rfl lc (aq (aj Z T.cA G_o hr.m (aF (cH (qv 0) (qv 4)) (a3 (cH (qv 1) qi) (qv 2) (qv 3))))))
    (aH (bA (Ly (qv 5)) (aH (bU (Gz (aq (bN (a1 (qv 4)))) (qv 5)))) aQ))) aQ))))
    (sr (dY jk (λ_=>.non))))),?_⟩
  refine ak λkk B=>?_
  simp only [R]
  refine eX (λc=>?_) (λc=>B _ ?_)
  ·have em:m=2:=by omega
   subst em
   simp only [Hg]
   exact ⟨n0,n1,N6,b0,b1,q1,q2⟩
  obtain ⟨m,rfl⟩:∃k,m=k+1:=⟨m - 1,by omega⟩
  obtain ⟨I,hI⟩:∃I:Nat->aO->Prop,I=(λi p=>∃w4 w5:Option D,(∀q,(i<(M.bH b N).length->(M.bH b N).getD ((M.bH b N).length - 1 - i) 0<q)->1<=q->q<=n->M.dh b q=true->¬M.Sm b m (n - q))/\p=[some (.d (.int n)),some (.d (.int ((m+1:Nat):Int))),some (.d (.lst ((M.bH b N).map D.int))),some (.d (kn (M.bH b N))),Option.map Sl.d w4,Option.map Sl.d w5]):=⟨_,rfl⟩
  refine d8 (vo (n:=((M.bH b N).map D.int).length) (item:=λi=>((M.bH b N).map D.int).getD (((M.bH b N).map D.int).length - 1 - i) .non) (p1:=_) (λQ h=>by simp only [Hh];exact h) I (by
   rw [hI]
   refine ⟨none,none,λq J a1 a2 a3=>?_,rfl⟩
   exfalso
   obtain ⟨j,hj,e⟩:=Ad N0 a1 (by omega) a3
   have h1:=J (by omega)
   by_cases z:j=(M.bH b N).length - 1
   ·subst z
    rw [show (M.bH b N).length - 1 - 0=(M.bH b N).length - 1 by omega,e] at h1
    omega
   ·have:=uy (b:=b) (N:=N) (show j<(M.bH b N).length - 1 by omega) (by omega)
    rw [e] at this
    rw [show (M.bH b N).length - 1 - 0=(M.bH b N).length - 1 by omega] at h1
    omega) ?_ ?_)
  ·intro i p hi U
   rw [hI] at U
   obtain ⟨w4,w5,h0,rfl⟩:=U
   rw [z9] at hi
   have Y:(M.bH b N).length - 1 - i<(M.bH b N).length:=by omega
   obtain ⟨x1,x2,x3⟩:=Pz N0 Y
   rw [z9,getD_ints Y]
   have step:∀q,(i+1<(M.bH b N).length->(M.bH b N).getD ((M.bH b N).length - 1 - (i+1)) 0<q)->1<=q->M.dh b q=true->q<=n->(M.bH b N).getD ((M.bH b N).length - 1 - i) 0<=q:=λq J a1 a2 a3=>by
    obtain ⟨j,hj,e⟩:=Ad N0 a1 (by omega) a2
    by_cases z:(M.bH b N).length - 1 - i<=j
    ·by_cases z2:(M.bH b N).length - 1 - i=j
     ·rw [z2,e];exact yS _
     ·have:=uy (b:=b) (N:=N) (show (M.bH b N).length - 1 - i<j by omega) hj
      rw [e] at this;omega
    ·exfalso
     have h1:=J (by omega)
     by_cases z2:j=(M.bH b N).length - 1 - (i+1)
     ·rw [<-z2,e] at h1;omega
     ·have:=uy (b:=b) (N:=N) (show j<(M.bH b N).length - 1 - (i+1) by omega) (by omega)
      rw [e] at this;omega
   generalize hx:(M.bH b N).getD ((M.bH b N).length - 1 - i) 0=x at *
   have above:∀q,x<q->q<=n->M.dh b q=true->¬M.Sm b m (n - q):=λq a1 a2 a3=>h0 q (λ_=>a1) (by omega) a2 a3
   simp only [Hg]
   refine ak λkk B=>?_
   simp only [R]
   refine ⟨Or.inl ⟨by omega,by omega⟩,?_⟩
   refine eX (λc3=>?_) (λc3=>B _ ?_)
   ·exact q1 (M.Yr c3 above)
   simp only [R]
   refine eX (λc4=>?_) (λc4=>?_)
   ·refine ak λkk B=>?_
    simp only [R,JB]
    refine ⟨b,N,m,by omega,rfl,rfl,by omega,by omega,N6,b0,b1,by omega,by omega,by omega,λhn=>B _ ?_,λL gL=>B _ ?_⟩
    ·simp only [Hh]
     rw [hI]
     refine ⟨some (.int x),some .non,λq J a1 a2 a3=>?_,rfl⟩
     have h1:=step q J a1 a3 a2
     by_cases z:q=x
     ·subst z;exact hn
     ·exact above q (by omega) a2 a3
    ·simp only [Q]
     refine ⟨by rw [z9,YW gL];omega,?_⟩
     exact q2 (x::L) (.cons x1 x3 gL λq a1 a2 s=>above q a1 (by have:=s.nn;omega) a2 s)
   ·simp only [Hh]
    rw [hI]
    refine ⟨some (.int x),w5,λq J a1 a2 a3=>?_,rfl⟩
    have h1:=step q J a1 a3 a2
    by_cases z:q=x
    ·subst z
     intro s
     have h2:n - q=0:=by have:=s.nn;omega
     have:=M.OD s (by omega)
     omega
    ·exact above q (by omega) a2 a3
  ·intro p U
   rw [hI] at U
   obtain ⟨w4,w5,h0,rfl⟩:=U
   rw [z9] at h0
   simp only [Hh]
   refine q1 λs=>?_
   obtain ⟨p,a1,a2,a3,a4⟩:=s.cut
   exact h0 p (λz=>absurd z (by omega)) a1 a3 a2 a4
theorem ae3 (T:Zs K mg cs):Ok P w base 22 T.cA S_o:=abC _ _ _ T 20
def S_R:fK:=λas R=>∃n b:Int,as=[.d (.int n),.d (.int b)]/\0<=n/\n<=10 ^ 6/\2<=b/\b<=36/\∀L,M.Gt b (M.nd b n) n L->R (.ro (L.map D.int)) as
theorem TV {b:Int} (n:2<=b):M.Gt b (M.nd b 0) 0 []:=by rw [M.xX n];exact .nil
theorem YX {b n:Int} (B:2<=b) (z:1<=n) (h:M.dh b n=true):M.Gt b (M.nd b n) n [n]:=by
 have h1:=(M.Ox B z).mpr h
 have h2:=M.Ow B z
 rw [show M.nd b n=0+1 by omega]
 refine .cons z h (by rw [Int.sub_self];exact .nil) λq a1 a2 s=>?_
 have:=s.none
 omega
theorem ae4 (T:Zs K mg cs):Ok P w base 23 T.uv S_R:=by
 have Ak:=jF P w base T
 have G_i:=Pq P w base T
 have G_d:=Pu P w base T
 have G_o:=ae3 P w base T
 refine T.uv.F.gU FJ (λas R h=>?_) (λcdv A outer s H E C as R hK hr h=>?_)
 ·obtain ⟨_,_,rfl,_⟩:=h;rfl
 have hu:=hr.units
 obtain ⟨n,b,rfl,n0,n1,U,b1,q⟩:=h
 have nB:n<M.uQ:=M.Fj (Int.le_trans n1 (by decide))
 have lm:=oU U b1 n0 n1
 have aib:M.nd b n<=20:=M.Fq U 20 n0 (by omega)
 refine ⟨_,(bf (pJ (aq (aj hK T.az Ak hr.m (a1 (qv 1)))))
    (bf (bA (gF hK hu (qv 0) qi) (aH (bU (bN e_))) aQ)
    (bf (bA (eZ (aq (aj hK T.cO G_i hr.m (a2 (qv 0) (qv 1))))) (aH (bU (bN (a1 (qv 0))))) aQ)
    (bf (aD (i:=2) FJ.nd rfl lc (aq (aj hK T.cP G_d hr.m (a2 (qv 0) (qv 1)))))
    (bf (RP (i:=3) FJ.nd rfl lc (N:=["part","number","base","parts","known","many","way"]) (k:=1) (aU.of (show gQ (aa s_R) ["number","base","parts","known","many","way"] _ ["part","number","base","parts","known","many","way"] 1 from ⟨by rfl,by decide,by decide,by rfl,by decide,by decide,by decide,by decide⟩)) rfl (gn hK (qv 2)) (λZ s H fp=>(d7 (i:=0) (by decide) (show List.Nodup (["part","number","base","parts","known","many","way"]:List Str) by decide) rfl (Or.inl rfl) (Or.inr rfl))) (λZ s H fp=>jn) (λZ s H fp=>(qv 0)) (λZ s H fp=>(dY jz (λ_=>.bl _))))
    (bf (aD (i:=4) FJ.nd rfl lc qi)
    (bf (iG (i:=5) FJ.nd rfl lc (aj hK T.cA G_o hr.m (aF (qv 0) (a3 (qv 4) (qv 2) (qv 3)))))
    (bf (Mj zL (Bw (qv 5)) (bf (aak (i:=4) FJ.nd rfl lc qi)
    (aH (iG (i:=5) FJ.nd rfl lc (aj hK T.cA G_o hr.m (aF (qv 0) (a3 (qv 4) (qv 2) (qv 3))))))))
    (aH (pL (i:=5) (pv 5))))))))))),?_⟩
 refine ak λkk B=>?_
 simp only [Hg]
 refine ⟨U,b1,B _ ?_⟩
 refine ak λkk B=>?_
 simp only [R]
 refine eX (λc=>?_) (λc=>B _ ?_)
 ·subst c
  exact q [] (TV U)
 refine ak λkk B=>?_
 simp only [R,S_i]
 refine ⟨n0,nB,U,b1,eX (λc=>?_) (λc2=>B _ ?_)⟩
 ·exact q [n] (YX U (by omega) c)
 have nd2:2<=M.nd b n:=by
  have h1:=M.Ox U (show 1<=n by omega)
  by_cases z:M.nd b n<=1
  ·exact absurd (h1.mp z) c2
  ·omega
 obtain ⟨sn,Y⟩:=M.oh U n0
 refine ak λkk B=>?_
 simp only [R,S_d]
 refine ⟨n0,n1,U,b1,B _ ?_⟩
 refine ak λkk B=>?_
 unfold Mz wL
 simp only [R]
 obtain ⟨I,hI⟩:∃I:Nat->List Key × List D->aO->Prop,I=(λj kd p=>kd=(((M.bH b n).take j).map Sum.inl,((M.bH b n).take j).map (λ_=>D.bl true))/\∃o:Option D,p=[Option.map Sl.d o,some (.d (.int n)),some (.d (.int b)),some (.d (.lst ((M.bH b n).map D.int))),none,none,none]):=⟨_,rfl⟩
 refine ⟨I,by rw [hI];exact ⟨rfl,none,rfl⟩,by rw [z9];omega,λj kd p hj hp=>?_,λkd p hp=>?_⟩
 ·rw [hI] at hp
  obtain ⟨rfl,o,rfl⟩:=hp
  rw [z9] at hj
  rw [getD_ints hj]
  have tk:(M.bH b n).take (j+1)=(M.bH b n).take j++[(M.bH b n).getD j 0]:=by
   rw [List.take_succ,zw,zg hj];rfl
  refine ⟨by rw [z9,yq];omega,?_⟩
  simp only [Q]
  refine ⟨λz=>?_,?_⟩
  ·obtain ⟨y,h1,h2⟩:=zV.mp z
   cases h2
   obtain ⟨i,hi,e⟩:=yJ h1
   rw [yq] at hi
   rw [List.getElem_take] at e
   have:=uy (b:=b) (N:=n) (show i<j by omega) hj
   rw [zw,zg (show i<(M.bH b n).length by omega)] at this
   have e2:(M.bH b n)[i]=(M.bH b n).getD j 0:=e
   simp only [Option.getD_some] at this
   omega
  ·rw [hI]
   exact ⟨by rw [tk,yf,yf];rfl,some _,rfl⟩
 rw [hI] at hp
 obtain ⟨rfl,o,rfl⟩:=hp
 have ek:D.lK (((M.bH b n).take ((M.bH b n).map D.int).length).map Sum.inl) (((M.bH b n).take ((M.bH b n).map D.int).length).map (λ_=>D.bl true))=kn (M.bH b n):=by
  rw [z9,List.take_of_length_le (zx _)];rfl
 rw [ek]
 refine ⟨rfl,B _ ?_⟩
 refine ak λkk B=>?_
 simp only [R]
 refine B _ ?_
 refine ak λkk B=>?_
 simp only [R,S_o,JB]
 have O:∀j,j<2->¬M.Sm b j n:=λj hj=>Y j (by omega)
 have go:∀(m:Nat) (v:Option Sl),(∀j,j<m->¬M.Sm b j n)->2<=m->m<=M.nd b n->((v=some (.d .non)/\¬M.Sm b m n)\/∃L:List Int,v=some (.own (L.map D.int))/\M.Gt b m n L)->kk [some (.d (.int n)),some (.d (.int b)),some (.d (.lst ((M.bH b n).map D.int))),some (.d (kn (M.bH b n))),some (.d (.int ((m:Nat):Int))),v]:=λm v h1 h2 h3 h4=>by
  refine B _ ?_
  obtain ⟨J,hJ⟩:∃J:aO->Prop,J=(λp=>∃(m:Nat) (v:Option Sl),(∀j,j<m->¬M.Sm b j n)/\2<=m/\m<=M.nd b n/\((v=some (.d .non)/\¬M.Sm b m n)\/∃L:List Int,v=some (.own (L.map D.int))/\M.Gt b m n L)/\p=[some (.d (.int n)),some (.d (.int b)),some (.d (.lst ((M.bH b n).map D.int))),some (.d (kn (M.bH b n))),some (.d (.int ((m:Nat):Int))),v]):=⟨_,rfl⟩
  refine d8 (nU J (λp=>match p[4]? with|some (some (Sl.d (D.int r)))=>30 - r.toNat|_=>0) (by rw [hJ];exact ⟨m,v,h1,h2,h3,h4,rfl⟩) ?_)
  intro p hp
  rw [hJ] at hp
  obtain ⟨m,v,h1,h2,h3,h4,rfl⟩:=hp
  rcases h4 with ⟨rfl,h4⟩|⟨L,rfl,h4⟩
  ·simp only [Q,S_o,JB]
   have m1:m+1<=M.nd b n:=by
    by_cases z:m=M.nd b n
    ·rw [z] at h4;exact absurd sn h4
    ·omega
   have nx:∀j,j<m+1->¬M.Sm b j n:=λj hj=>by
    by_cases z:j=m
    ·rw [z];exact h4
    ·exact h1 j (by omega)
   refine ⟨n0,yS _,n1,U,b1,by omega,by omega,by omega,λhn=>⟨?_,by omega⟩,λL gL=>⟨?_,by omega⟩⟩
   ·rw [hJ]
    exact ⟨m+1,_,nx,by omega,m1,.inl ⟨rfl,hn⟩,rfl⟩
   ·rw [hJ]
    exact ⟨m+1,_,nx,by omega,m1,.inr ⟨L,rfl,gL⟩,rfl⟩
  ·simp only [Q]
   have em:m=M.nd b n:=by
    by_cases z:m=M.nd b n
    ·exact z
    ·exact absurd h4.way.sm (Y m (by omega))
   subst em
   exact q L h4
 refine ⟨n0,yS _,n1,U,b1,λhn=>?_,λL gL=>?_⟩
 ·exact go 2 _ O (zx _) nd2 (.inl ⟨rfl,hn⟩)
 ·exact go 2 _ O (zx _) nd2 (.inr ⟨L,rfl,gL⟩)
def ae5:fK:=λas R=>∃n b:Int,as=[.d (.int n),.d (.int b)]/\0<=n/\n<M.uQ/\2<=b/\b<=36/\∀L,M.Fw b n L->R (.ro (L.map D.int)) as
theorem abD (T:Zs K mg cs):Ok P w base 6 T.Ac ae5:=by
 have Ak:=jF P w base T
 have G_F:=YM P w base T
 refine T.Ac.F.gU C_ (λas R h=>?_) (λcdv A outer s H E C as R Y U h=>?_)
 ·obtain ⟨_,_,rfl,_⟩:=h;rfl
 have hu:=U.units
 obtain ⟨n,b,rfl,n0,n1,O,b1,q⟩:=h
 refine ⟨_,(bf (pJ (aq (aj Y T.az Ak U.m (a1 (qv 1)))))
    (bf (iG (i:=2) C_.nd rfl lc (bN e_))
    (bf (aD (i:=3) C_.nd rfl lc (qv 0))
    (bf (Mj zL (Ec (qv 3) qi) (bf (aD (i:=4) C_.nd rfl lc (aq (aj Y T.jg G_F U.m (a2 (qv 3) (qv 1)))))
    (bf (pJ (iY Y (pv 2) (a1 (qv 4))))
    (aH (W7 (i:=3) C_.nd rfl lc (qv 4))))))
    (aH (pL (i:=2) (pv 2))))))),?_⟩
 simp only [Hh]
 refine ⟨O,b1,?_⟩
 simp only [Ho]
 simp only [Ho]
 simp only [Ho]
 simp only [Ho]
 simp only [Ho]
 simp only [Ho]
 dsimp only
 refine d8 ?_
 obtain ⟨I,Z⟩:∃I:aO->Prop,I=(λp=>∃(ds:List Int) (B:Int) (v:Option D),p=[some (.d (.int n)),some (.d (.int b)),some (.own (ds.map D.int)),some (.d (.int B)),Option.map Sl.d v]/\0<=B/\B<=n/\B * 2 ^ ds.length<=n/\∀L,M.Fw b B L->M.Fw b n (ds++L)):=⟨_,rfl⟩
 refine nU I (λp=>match p[3]? with|some (some (Sl.d (D.int r)))=>r.toNat|_=>0) (by rw [Z];exact ⟨[],n,none,rfl,n0,yS _,by simp,λL h=>h⟩) ?_
 intro p hp
 rw [Z] at hp
 obtain ⟨ds,B,v,rfl,l0,l1,l2,l3⟩:=hp
 simp only [Hh]
 refine pU (λc=>?_) (λc=>?_)
 ·have len:ds.length<4000:=by
   have h1:=zy (show (1:Int)<=B by omega) (show (0:Int)<=2 ^ ds.length by have:=M.au (show (0:Int)<2 by decide) ds.length;omega)
   have h2:(2:Int) ^ ds.length<2 ^ 4000:=by rw [<-M.nZ];omega
   by_cases z:ds.length<4000
   ·exact z
   ·have:=M.bF (b:=2) (by decide) (show 4000<=ds.length by omega)
    exact absurd h2 (Int.not_lt.mpr this)
  simp only [Hh]
  refine ⟨l0,by omega,O,b1,λm J=>?_⟩
  have m1:=J.one O (show 1<=B by omega)
  have m2:=J.le
  have m3:=J.half O (show 1<=B by omega)
  simp only [Hh]
  refine ⟨by rw [z9];omega,?_⟩
  simp only [Hh]
  refine ⟨?_,show (B - m).toNat<B.toNat by omega⟩
  rw [Z]
  refine ⟨ds++[m],B - m,some (.int m),by rw [yf];rfl,by omega,by omega,?_,λL hL=>?_⟩
  ·rw [zj,yx,zI,yt (2 ^ ds.length) 2,<-xA]
   have:=zy (show (B - m) * 2<=B by omega) (show (0:Int)<=2 ^ ds.length by have:=M.au (show (0:Int)<2 by decide) ds.length;omega)
   omega
  ·rw [xw]
   exact l3 _ (.cons (by omega) J hL)
 ·have e:B=0:=by omega
  simp only [Hh]
  subst e
  have:=l3 [] .nil
  rw [zX] at this
  exact q _ this
def wt (ns:List Int):Str:=if ns=[] then "0" else Txt.join TX.sep (ns.map TX.tx)
def S_y:fK:=λas R=>∃w:Str,as=[.d (.str w),.d (.int 41)]/\w.cps.all (·<128)=true/\w.length<=100000/\R (.rd (.bl (TX.wr w))) as
theorem TY:("0":Str).cps.toList=[48]:=by decide
theorem PJ {c:Nat} (h:c≠48):((⟨#[c]⟩:Str)="0")=False:=eq_false λz=>by
 have:=yd (λs:Str=>s.cps.toList) z
 simp only [TY] at this
 simp at this
 exact h this
theorem FW {w:Str} (z:w.cps.all (·<128)=true) {i:Nat} (hi:i<w.cps.size):w.cps.getD i 0<128/\w.cps.getD i 0∈w.cps.toList:=by
 have n:w.cps.getD i 0∈w.cps.toList:=by
  rw [Array.getD_eq_getD_getElem?,Array.getElem?_eq_getElem hi]
  exact Array.getElem_mem_toList hi
 rw [<-yY,zP] at z
 exact ⟨yG (z _ n),n⟩
theorem abE (T:Zs K mg cs):Ok P w base 1 T.gH S_y:=by
 obtain ⟨B,fQ⟩:=T.fQ
 refine T.gH.F.gU abb (λas R h=>?_) (λcdv A outer s H E C as R hK hr h=>?_)
 ·obtain ⟨_,rfl,_⟩:=h;rfl
 have hu:=hr.units
 obtain ⟨w,rfl,wa,wl,q⟩:=h
 have ef:("0123456789":Str)=TX.CJ:=rfl
 have ll:=TX.cR w
 refine ⟨_,(bf (bA (eN (nO jK jK qi (rF rfl T.fL (a1 (qv 0))) (qv 1))) (sr (dY jz (λ_=>.bl _))) aQ)
    (bf (qF zL rfl (Uy (qv 0)) (aK (i:=2) abb.nd rfl lc) (aH (bA (MK (qv 2) (dY (cB (v:=.str "0123456789") rfl fQ ⟨_,rfl⟩) (λ_=>.str _))) (sr (dY jz (λ_=>.bl _))) aQ)))
    (sr (Us (Ls hK hu (rF rfl T.fL (a1 (qv 0))) qi) (u_ (adl hK hu (MN (qv 0) qi (λ_ _=>rfl)) qs)))))),?_⟩
 refine ak λkk hkk=>?_
 simp only [R]
 refine ⟨by omega,?_⟩
 refine eX (λc1=>eX (λc2=>hkk _ ?_) (λc2=>?_)) (λc1=>?_)
 rotate_left
 ·have e:TX.wr w=false:=by
   unfold TX.wr
   rw [zO (show ¬w.length<=41 by omega)];simp
  rw [e] at q;exact q
 ·have e:TX.wr w=false:=by
   unfold TX.wr
   rw [zO (show ¬1<=w.length by omega)];simp
  rw [e] at q;exact q
 obtain ⟨I,Y⟩:∃I:Nat->aO->Prop,I=(λ(i:Nat) p=>∃Z:Option D,p=[some (.d (.str w)),some (.d (.int 41)),Option.map Sl.d Z]/\∀j,j<i->48<=w.cps.getD j 0/\w.cps.getD j 0<=57):=⟨_,rfl⟩
 refine d8 (vo (n:=w.cps.size) (item:=λi=>.str ⟨#[w.cps.getD i 0]⟩) (p1:=_) (λQ h=>by simp only [Q];exact ⟨wa,h⟩) I (by rw [Y];exact ⟨none,rfl,λj O=>absurd O (Nat.not_lt_zero _)⟩) ?_ ?_)
 ·intro i p hi J
  rw [Y] at J
  obtain ⟨Z,rfl,J⟩:=J
  obtain ⟨U,hm⟩:=FW wa hi
  by_cases dd:48<=w.cps.getD i 0/\w.cps.getD i 0<=57
  ·have fi:=TX.O1 _ dd
   simp only [Q,ef,fi]
   rw [Y]
   refine ⟨some _,rfl,λj O=>?_⟩
   by_cases y:j=i
   ·rw [y];exact dd
   ·exact J j (by omega)
  ·have fi:=TX.Hx _ U dd
   have e:TX.wr w=false:=by
    unfold TX.wr
    have:(w.cps.toList.all λc=>decide (48<=c) && decide (c<=57))=false:=by
     cases z:(w.cps.toList.all λc=>decide (48<=c) && decide (c<=57)) with
     | false=>rfl
     | true=>
      rw [zP] at z
      have:=z _ hm
      simp only [yy,yw] at this
      exact absurd this dd
    rw [this,Bool.and_false]
   rw [e] at q
   simp only [Q,ef,fi]
   exact q
 ·intro p J
  rw [Y] at J
  obtain ⟨Z,rfl,J⟩:=J
  have all:(w.cps.toList.all λc=>decide (48<=c) && decide (c<=57))=true:=by
   rw [zP]
   intro c hc
   obtain ⟨j,O,ej⟩:=yJ hc
   have:=J j (by rw [yI] at O;exact O)
   rw [Array.getD_eq_getD_getElem?,Array.getElem?_eq_getElem (by rw [yI] at O;exact O)] at this
   simp at ej this
   rw [ej] at this
   simp [this]
  cases hl:w.cps.toList with
  | nil=>rw [hl] at ll;simp at ll;omega
  | cons c r=>
   have at0:gA w.cps.toList 0=some c:=by rw [hl];have h:gA (c::r) ((0:Nat):Int)=some c:=dF rfl;exact h
   have e:TX.wr w=(decide (w.length=1) || !decide (c=48)):=by
    unfold TX.wr
    rw [all,zZ (show 1<=w.length by omega),zZ (show w.length<=41 by omega),hl]
    by_cases y:c=48<;>simp [y]
   simp only [Q,at0]
   rw [e] at q
   refine ⟨wl,eX (λc3=>?_) (λc3=>⟨wl,?_⟩)⟩
   ·rw [zZ (show w.length=1 by omega),Bool.true_or] at q;exact q
   ·rw [zO (show ¬w.length=1 by omega),Bool.false_or] at q
    have ec:decide ((⟨#[c]⟩:Str)=("0":Str))=decide (c=48):=by
     by_cases y:c=48
     ·have:(⟨#[c]⟩:Str)=("0":Str):=TX.qG (by rw [TY,y])
      rw [zZ this,zZ y]
     ·have:=PJ y
      rw [zO (by rw [this];exact id),zO y]
    have ec2:(Str.ofString "0")=("0":Str):=rfl
    rw [ec2,ec]
    exact q
theorem ae6:(" + ":Str)=TX.sep:=rfl
theorem PK (ns:List Int):(List.range ns.length).map (λi=>D.str (TX.tx (ns.getD i 0)))=(ns.map TX.tx).map D.str:=by
 rw [List.map_map]
 have e:=yd (List.map (D.str ∘ TX.tx)) (M.range_getD ns)
 rw [List.map_map] at e
 exact e
structure Wz (ns:List Int):Prop where
 nq:∀n∈ns,1<=n/\n<10 ^ 50
 few:ns.length<=20000
theorem Wz.at {ns:List Int} (h:Wz ns) {i:Nat} (hi:i<ns.length):TX.Nz (ns.getD i 0):=by
 have:1<=ns.getD i 0/\ns.getD i 0<10 ^ 50:=h.nq _ (by rw [zw,zg hi];exact yg hi)
 exact TX.dN (by omega) this.2
theorem HF {sp:Str} {ns:List Int} (I:sp.length<=5) (h:∀n∈ns,0<=n/\n<10 ^ 50) (l:ns.length<=20000):JoinOk sp (ns.map TX.tx)=true:=by
 have f:=StrLaws.joinFits (sep:=sp) (texts:=ns.map TX.tx) (B:=50) (λy D=>by
  obtain ⟨n,z,rfl⟩:=zV.mp D
  exact (TX.dN (h n z).1 (h n z).2).len) (by
  rw [z9]
  have:ns.length * sp.length<=20000 * 5:=Nat.mul_le_mul l I
  omega)
 unfold JoinOk
 rw [f];rfl
def S_A:fK:=λas R=>∃ns:List Int,as=[.d (.lst (ns.map D.int))]/\Wz ns/\R (.rd (.str (wt ns))) as
theorem T6 (T:Zs K mg cs):Ok P w base 1 T.fV S_A:=by
 obtain ⟨B,iJ⟩:=T.iJ
 refine T.fV.F.gU aet (λas R h=>?_) (λcdv A outer s H E C as R O hr h=>?_)
 ·obtain ⟨_,rfl,_⟩:=h;rfl
 have Y:=hr.units
 obtain ⟨ns,rfl,I,q⟩:=h
 have few:=I.few
 refine ⟨_,(bf (bA (gF O Y (gm O rfl T.fL (a1 (qv 0))) qi) (sr (dY (cB (v:=.str "0") rfl iJ ⟨_,rfl⟩) (λ_=>.str _))) aQ)
    (sr (MT O qs (a1 (aq (pN (N:=["part","way"]) (k:=1) (aU.of (show gQ (aa s_A) ["way"] _ ["part","way"] 1 from ⟨by rfl,by decide,by decide,by rfl,by decide,by decide,by decide,by decide⟩)) rfl (gn O (qv 0)) (λZ s H fp=>(d7 (i:=0) (by decide) (show List.Nodup (["part","way"]:List Str) by decide) rfl (Or.inl rfl) (Or.inr rfl))) (λZ s H fp=>jn) (λZ s H fp=>(fY rfl T.iB (a1 (qv 0)))))))))),?_⟩
 refine ak λkk U=>?_
 simp only [R,z9]
 refine eX (λc=>?_) (λc=>U _ ?_)
 ·have e:ns=[]:=yO.mp (by omega)
  subst e
  exact q
 have ne:ns≠[]:=λz=>c (by rw [z];rfl)
 rw [show wt ns=Txt.join TX.sep (ns.map TX.tx) by unfold wt;rw [zh ne]] at q
 simp only [S]
 refine comp_map (n:=(ns.map D.int).length) (item:=λi=>(ns.map D.int).getD i .non) (p1:=_) (λQ h=>by simp only [Q];exact h) (by rw [z9];omega) (λi=>.str (TX.tx (ns.getD i 0))) (λi R hi h=>?_) ?_
 ·rw [z9] at hi
  rw [getD_ints hi] at h ⊢
  have J:=I.at hi
  simp only [Q]
  exact ⟨J.lg,h⟩
 rw [z9,PK]
 simp only [Q]
 exact ⟨HF (by decide) (λn J=>⟨by have:=(I.nq n J).1;omega,(I.nq n J).2⟩) few,q⟩
def S_j:fK:=λas R=>∃(w:Str) (z n:Int),as=[.d (.str w),.d (.int z)]/\w.cps.all (·<128)=true/\w.length<=100000/\TX.num w z=some n/\R (.rd (.int n)) as
theorem abF (T:Zs K mg cs):Ok P w base 2 T.cN S_j:=by
 have D:=abE P w base T
 obtain ⟨z,cT⟩:=T.cT
 refine T.cN.F.gU Td (λas R h=>?_) (λcdv A outer s H E C as R hK U h=>?_)
 ·obtain ⟨_,_,_,rfl,_⟩:=h;rfl
 have hu:=U.units
 obtain ⟨w,bd,n,rfl,wa,Z,hn,q⟩:=h
 obtain ⟨J,n1,n2,rfl⟩:=TX.dW hn
 have Y:=TX.U_ J n1
 have I:=TX.dN J (xa n1 (by decide))
 refine ⟨_,(bf (bA (eN (eZ (aq (aj hK T.gH D U.m (a2 (qv 0) (dY (cB (v:=.int 41) rfl cT ⟨_,rfl⟩) (λ_=>.int _))))))) (aH pK) aQ)
    (bf (aD (i:=2) Td.nd rfl lc (nW rfl T.um (a1 (qv 0))))
    (bf (bA (Ec (qv 2) (qv 1)) (aH pK) aQ)
    (sr (qv 2))))),?_⟩
 refine ak λO B=>?_
 simp only [R,S_y,Y]
 refine ⟨wa,Z,B _ ?_⟩
 refine ak λO B=>?_
 simp only [R]
 refine ⟨_,I.rd,by have:=I.len;omega,B _ ?_⟩
 refine ak λO B=>?_
 simp only [R]
 rw [zh (by omega)]
 refine B _ ?_
 simp only [Q]
 exact q
def X_j (cs:XA):Je:=λas z=>∃(w:Str) (n:Int),as=[.d (.str w),.d (.int n)]/\w.cps.all (·<128)=true/\w.length<=100000/\TX.num w n=none/\z=cs.aG
theorem abG (T:Zs K mg cs):YK P w base 2 T.cN (X_j cs):=by
 have U:=abE P w base T
 obtain ⟨B,cT⟩:=T.cT
 refine T.cN.F.Zi Td (λas Cl h=>?_) (λcdv A outer s H E C as Cl XE hK hr h O lk lr=>?_)
 ·obtain ⟨_,_,rfl,_⟩:=h;exact ⟨rfl,CW [_,_]⟩
 have hu:=hr.units
 obtain ⟨w,bd,rfl,Z,Y,J,rfl⟩:=h
 subst O
 refine ⟨_,(bf (bA (eN (eZ (aq (aj hK T.gH U hr.m (a2 (qv 0) (dY (cB (v:=.int 41) rfl cT ⟨_,rfl⟩) (λ_=>.int _))))))) (aH (wU T.eU rfl lr (a1 qs))) aQ)
    (bf (aD (i:=2) Td.nd rfl lc (nW rfl T.um (a1 (qv 0))))
    (bf (bA (Ec (qv 2) (qv 1)) (aH (wU T.eU rfl lr (a1 qs))) aQ)
    (sr (qv 2))))),?_⟩
 refine ak λkk D=>?_
 by_cases I:TX.wr w=true
 ·obtain ⟨n,n0,n1,rfl⟩:=TX.O2 I
  have nz:=TX.dN n0 (xa n1 (by decide))
  rw [TX.ug n0 n1] at J
  have gt:¬n<=bd:=λz=>by rw [zo z] at J;cases J
  simp only [R,S_y,I]
  refine ⟨Z,Y,D _ ?_⟩
  refine ak λkk D=>?_
  simp only [R]
  refine ⟨_,nz.rd,by have:=nz.len;omega,D _ ?_⟩
  refine ak λkk D=>?_
  simp only [R]
  rw [zo (by omega)];trivial
 ·have wf:TX.wr w=false:=by simpa using I
  simp only [R,S_y,wf]
  exact ⟨Z,Y⟩
theorem uz (t:Str):Txt.split t TX.qH≠[]:=by
 unfold Txt.split
 split
 ·simp
 ·split
  ·simp
  ·unfold Builtin.Str.partsBetween
   intro z
   have:=yd List.length z
   simp at this
theorem FZ {K:PySem.W.Frag} {w:Str}:∀{n:List (Str × Addr)} {B:List (Str × List Int)},Pg K n B->PyProof.Rows.KTD.inKeys w n=(B.lookup w).isSome/\∀ns,B.lookup w=some ns->∃a,PyProof.Rows.KTD.datumAt w n=some a/\Qn K a ns
 | _,_,.nil=>⟨rfl,λns h=>by cases h⟩
 | _,_,.cons (x:=x) (a:=a) (ns:=ns) hk r=>by
  obtain ⟨I,D⟩:=FZ (w:=w) r
  unfold PyProof.Rows.KTD.inKeys PyProof.Rows.KTD.datumAt
  rw [zT]
  by_cases z:w=x
  ·subst z
   refine ⟨by simp,λns h=>⟨a,by simp,?_⟩⟩
   simp at h
   rw [<-h];exact hk
  ·have:(w == x)=false:=by simpa using z
   rw [this,zO z,zh y9]
   exact ⟨by simpa using I,D⟩
theorem Ae {ws:List Str} {i:Nat} (hi:i<ws.length):(ws.map D.str).getD i .non=.str (ws.getD i Str.empty)/\ws.getD i Str.empty∈ws:=by
 refine ⟨?_,?_⟩
 ·rw [zw,zN,zw,zg hi];rfl
 ·rw [zw,zg hi];exact yg hi
theorem Af:(" ":Str)=TX.qH:=rfl
def S_e:fK:=λas R=>∃(w f:Str) (ns:List Int),as=[.d (.str w)]/\w.cps.all (·<128)=true/\w.length<=50000/\TX.rowOf w=some (f,ns)/\R (.rd (.tup [.str f,.lst (ns.map D.int)])) as
theorem YZ (T:Zs K mg cs):Ok P w base 3 T.bZ S_e:=by
 have G_j:=abF P w base T
 refine T.bZ.F.gU CZ (λas R h=>?_) (λcdv A outer s H E C as R J hr h=>?_)
 ·obtain ⟨_,_,_,rfl,_⟩:=h;rfl
 have hu:=hr.units
 obtain ⟨w,f,ns,rfl,wa,wl,B,q⟩:=h
 have wm:=TX.Ft w
 have wo:∀x∈Txt.split w TX.qH,x.cps.all (·<128)=true/\x.length<=w.length:=λx hx=>TX.O3 wa hx
 unfold TX.rowOf at B
 have kB:=T.bB
 refine ⟨_,(bf (bA (eN (eZ (pI (T:="str") J (by first|exact .inl rfl|exact .inr (.inl rfl)|exact .inr (.inr (.inl rfl))|exact .inr (.inr (.inr (.inl rfl)))|exact .inr (.inr (.inr (.inr rfl)))) rfl T.bC (a2 (qv 0) (dY (jl (v:=.ty "str") rfl T.iB (by kernel_rfl) rfl) (λ_=>.atom _)))))) (aH pK) aQ)
    (bf (gB (aq (wR J (qv 0) (a1 qs))) (N_ J rfl (aK (i:=1) CZ.nd rfl lc) (aK (i:=2) CZ.nd rfl lc)))
    (bf (bA (N8 T.kB rfl T.mB (qv 1)) (aH pK) aQ)
    (bf (aD (i:=3) CZ.nd rfl lc (Cq T.kB rfl T.mB (qv 1) (λ_ _=>rfl)))
    (bf (bA (Lw J hu (gm J rfl T.fL (a1 (qv 2))) (G8 rfl T.fL (a1 (qv 3)))) (aH pK) aQ)
    (sr (vf (a2 (qv 1) (aq (pN (N:=["word","bound","words","first","others","bounds"]) (k:=2) (aU.of (show gQ (aa s_e) ["words","first","others","bounds"] _ ["word","bound","words","first","others","bounds"] 2 from ⟨by rfl,by decide,by decide,by rfl,by decide,by decide,by decide,by decide⟩)) rfl (NZ J rfl T.Vc (a2 (qv 2) (qv 3))) (λZ s H fp=>(Mq (n:=2) J rfl (nR (d7 (i:=0) (by decide) (show List.Nodup (["word","bound","words","first","others","bounds"]:List Str) by decide) rfl (Or.inl rfl) (Or.inr rfl)) (nR (d7 (i:=1) (by decide) (show List.Nodup (["word","bound","words","first","others","bounds"]:List Str) by decide) rfl (Or.inl rfl) (Or.inr rfl)) GP)))) (λZ s H fp=>jn) (λZ s H fp=>(aq (aj J T.cN G_j hr.m (a2 (qv 0) (qv 1))))))))))))))),?_⟩
 refine ak λO I=>?_
 simp only [R]
 refine I _ ?_
 refine ak λO I=>?_
 simp only [R,Af]
 refine ⟨by omega,by omega,?_⟩
 cases hs:Txt.split w TX.qH with
 | nil=>exact absurd hs (uz w)
 | cons g os=>
  rw [hs] at B wm wo
  simp only at B
  cases Y:TX.BT.lookup g with
  | none=>rw [Y] at B;cases B
  | some bs=>
   rw [Y] at B
   simp only [yB] at B
   cases U:TX.nums os bs with
   | none=>rw [U] at B;cases B
   | some ms=>
    rw [U] at B
    cases (B)
    obtain ⟨k1,k2⟩:=FZ (w:=f) kB
    rw [Y] at k1
    obtain ⟨a,ha,hk⟩:=k2 bs Y
    obtain ⟨l1,l2⟩:=TX.gY U
    refine ⟨_,_,rfl,?_⟩
    simp only [R]
    refine I _ ?_
    refine ak λO I=>?_
    simp only [R,k1]
    refine I _ ?_
    refine ak λO I=>?_
    simp only [R,ha]
    refine I _ ?_
    refine ak λO I=>?_
    simp only [R,z9]
    refine ⟨bs,hk,?_⟩
    rw [zo (by rw [l1])]
    refine I _ ?_
    simp only [S]
    simp only [zG] at wm
    refine t6 (n:=(os.map D.str).length) (m:=100000) (a:=λi=>(os.map D.str).getD i .non) (b:=λi=>.int (bs.getD i 0)) (p1:=_) (λQ h=>by
     simp only [Q]
     exact ⟨bs,hk,by rw [z9];exact l1,h⟩) (by rw [z9];omega) (λi=>.int (ns.getD i 0)) (λi R hi _ h=>?_) (λR z=>by rw [z9] at z;omega) (λ_=>?_)
    ·rw [z9] at hi
     obtain ⟨e1,e2⟩:=Ae hi
     rw [e1] at h ⊢
     obtain ⟨x1,x2⟩:=wo _ (zn _ e2)
     simp only [Q,S_j]
     exact ⟨x1,by omega,_,TX.iy U i hi,h⟩
    rw [z9,show (List.range os.length).map (λi=>D.int (ns.getD i 0))=ns.map D.int by
     have:=yd (List.map D.int) (M.range_getD ns)
     rw [List.map_map,l2,<-l1] at this
     exact this]
    simp only [Q]
    exact q
def X_e (cs:XA):Je:=λas n=>∃d:D,as=[.d d]/\(wJ "str" d=some false\/∃w:Str,d=.str w/\w.cps.all (·<128)=true/\w.length<=50000/\TX.rowOf w=none)/\n=cs.aG
theorem abH (T:Zs K mg cs):YK P w base 3 T.bZ (X_e cs):=by
 have O:=abG P w base T
 have G_j:=abF P w base T
 refine T.bZ.F.Xy (S:=λ_=>X_e cs) CZ (λ_ as Cl h=>?_) (λcdv A outer s H E C as Cl XE J _ _ hr h hXE lk lr ln=>?_)
 ·obtain ⟨_,rfl,_⟩:=h;exact ⟨rfl,CW [_]⟩
 have hu:=hr.units
 obtain ⟨d,rfl,hd,rfl⟩:=h
 subst hXE
 have kB:=T.bB
 refine ⟨_,(bf (bA (eN (eZ (pI (T:="str") J (by first|exact .inl rfl|exact .inr (.inl rfl)|exact .inr (.inr (.inl rfl))|exact .inr (.inr (.inr (.inl rfl)))|exact .inr (.inr (.inr (.inr rfl)))) rfl T.bC (a2 (qv 0) (dY (jl (v:=.ty "str") rfl T.iB (by kernel_rfl) rfl) (λ_=>.atom _)))))) (aH (wU T.eU rfl lr (a1 qs))) aQ)
    (bf (gB (aq (wR J (qv 0) (a1 qs))) (N_ J rfl (aK (i:=1) CZ.nd rfl lc) (aK (i:=2) CZ.nd rfl lc)))
    (bf (bA (N8 T.kB rfl T.mB (qv 1)) (aH (wU T.eU rfl lr (a1 qs))) aQ)
    (bf (aD (i:=3) CZ.nd rfl lc (Cq T.kB rfl T.mB (qv 1) (λ_ _=>rfl)))
    (bf (bA (Lw J hu (gm J rfl T.fL (a1 (qv 2))) (G8 rfl T.fL (a1 (qv 3)))) (aH (wU T.eU rfl lr (a1 qs))) aQ)
    (sr (vf (a2 (qv 1) (aq (Sg (N:=["word","bound","words","first","others","bounds"]) (k:=2) (aU.of (show gQ (aa s_e) ["words","first","others","bounds"] _ ["word","bound","words","first","others","bounds"] 2 from ⟨by rfl,by decide,by decide,by rfl,by decide,by decide,by decide,by decide⟩)) rfl ln (NZ J rfl T.Vc (a2 (qv 2) (qv 3))) (λZ s H fp E=>(Mq (n:=2) J rfl (nR (d7 (i:=0) (by decide) (show List.Nodup (["word","bound","words","first","others","bounds"]:List Str) by decide) rfl (Or.inl rfl) (Or.inr rfl)) (nR (d7 (i:=1) (by decide) (show List.Nodup (["word","bound","words","first","others","bounds"]:List Str) by decide) rfl (Or.inl rfl) (Or.inr rfl)) GP)))) (λZ s H fp E=>jn) (λZ s H fp E lk=>(aq (aaE (aj J T.cN G_j hr.m (a2 (qv 0) (qv 1))) (kI J T.cN O hr.m lk (a2 (qv 0) (qv 1)))))))))))))))),?_⟩
 refine ak λU B=>?_
 rcases hd with hd|⟨w,rfl,wa,wl,I⟩
 ·simp only [R]
  exact ⟨_,hd,by rw [zo rfl];trivial⟩
 have wm:=TX.Ft w
 have wo:∀x∈Txt.split w TX.qH,x.cps.all (·<128)=true/\x.length<=w.length:=λx hx=>TX.O3 wa hx
 unfold TX.rowOf at I
 simp only [R]
 refine B _ ?_
 refine ak λU B=>?_
 simp only [R,Af]
 refine ⟨by omega,by omega,?_⟩
 cases hs:Txt.split w TX.qH with
 | nil=>exact absurd hs (uz w)
 | cons g os=>
  rw [hs] at I wm wo
  simp only [zG] at I wm
  refine ⟨_,_,rfl,?_⟩
  simp only [R]
  refine B _ ?_
  obtain ⟨k1,k2⟩:=FZ (w:=g) kB
  refine ak λU B=>?_
  cases hb:TX.BT.lookup g with
  | none=>
   rw [hb] at k1
   have k1:PyProof.Rows.KTD.inKeys g T.tB=false:=k1
   simp only [R,k1]
  | some bs=>
   rw [hb] at k1 I
   obtain ⟨a,ha,hk⟩:=k2 bs hb
   simp only [yB] at I
   have hn:TX.nums os bs=none:=by
    cases hn:TX.nums os bs with
    | none=>rfl
    | some ms=>rw [hn] at I;cases I
   simp only [R,k1]
   refine B _ ?_
   refine ak λU B=>?_
   simp only [R,ha]
   refine B _ ?_
   refine ak λU B=>?_
   simp only [R,z9]
   refine ⟨bs,hk,eX (λc=>B _ ?_) (λc=>trivial)⟩
   have l1:os.length=bs.length:=by omega
   obtain ⟨m,m1,m2,m3⟩:=TX.Hz l1 hn
   simp only [S]
   refine t6 (n:=(os.map D.str).length) (m:=m) (a:=λi=>(os.map D.str).getD i .non) (b:=λi=>.int (bs.getD i 0)) (p1:=_) (λQ h=>by
    simp only [Q]
    exact ⟨bs,hk,by rw [z9];exact l1,h⟩) (by rw [z9];omega) (λi=>.int ((TX.num (os.getD i Str.empty) (bs.getD i 0)).getD 0)) (λi R hi hm h=>?_) (λR z=>?_) (λz=>by rw [z9] at z;omega)
   ·rw [z9] at hi
    obtain ⟨e1,e2⟩:=Ae hi
    rw [e1] at h ⊢
    obtain ⟨Y,x2⟩:=wo _ (zn _ e2)
    cases hv:TX.num (os.getD i Str.empty) (bs.getD i 0) with
    | none=>exact absurd hv (m3 i hm)
    | some v=>
     rw [hv] at h
     simp only [Q,S_j]
     exact .inl ⟨Y,by omega,v,hv,h⟩
   ·obtain ⟨e1,e2⟩:=Ae m1
    rw [e1]
    obtain ⟨Y,x2⟩:=wo _ (zn _ e2)
    simp only [Q,X_j]
    exact .inr ⟨Y,by omega,m2⟩
theorem PL {n:Int} (h0:0<=n) (h:n<2 ^ 1100):n.natAbs.log2<1920:=by
 obtain ⟨m,rfl⟩:=yl h0
 have B:m<2 ^ 1100:=by exact_mod_cast h
 by_cases z:m=0
 ·subst z;decide
 ·exact zE ((Nat.log2_lt z).mpr B) (by decide)
theorem qI {n:Int} (h:n<=10 ^ 40):n<M.uQ/\n<2 ^ 1100:=by
 have h1:(10:Int) ^ 40<M.uQ:=by unfold M.uQ;decide
 have h2:(10:Int) ^ 40<2 ^ 1100:=by decide
 omega
theorem Y0 {k:Nat} {ti:uP} {g:sX} {z:m8} {B:TQ} {Q:Rt->aO->Prop} {p:aO} (h:ti p λn item p1=>lN k (λ_ Q=>Q n item p1) g z B p1 Q):lN k ti g z B p Q:=h
def S_B:fK:=λas R=>∃n b:Int,as=[.d (.int b),.d (.lst [.int n])]/\2<=b/\b<=36/\0<=n/\n<=10 ^ 40/\R (.rd (.str (Txt.join TX.qH ((M.fg b n).map TX.tx)))) as
theorem afa (T:Zs K mg cs):Ok P w base 4 T.bJ S_B:=by
 have O:=Pn P w base T
 refine T.bJ.F.gU aek (λas R h=>?_) (λcdv A outer s H E C as R z Y h=>?_)
 ·obtain ⟨_,_,rfl,_⟩:=h;rfl
 have hu:=Y.units
 obtain ⟨n,b,rfl,J,b1,B,n1,q⟩:=h
 obtain ⟨n2,_⟩:=qI n1
 have I:=M.fG J B
 have fl:=M.Oh J B n2
 refine ⟨_,(sr (MT z qs (a1 (aq (pN (N:=["figure","base","numbers"]) (k:=1) (aU.of (show gQ (aa s_B) ["base","numbers"] _ ["figure","base","numbers"] 1 from ⟨by rfl,by decide,by decide,by rfl,by decide,by decide,by decide,by decide⟩)) rfl (gn z (aq (aj z T.fU O Y.m (a2 (qx z (qv 1)) (qv 0))))) (λZ s H fp=>(d7 (i:=0) (by decide) (show List.Nodup (["figure","base","numbers"]:List Str) by decide) rfl (Or.inl rfl) (Or.inr rfl))) (λZ s H fp=>jn) (λZ s H fp=>(fY rfl T.iB (a1 (qv 0))))))))),?_⟩
 simp only [S]
 refine Y0 ?_
 simp only [Hh]
 refine ⟨B,n2,J,b1,?_⟩
 simp only [Hh]
 have fr:∀i,i<(M.fg b n).length->0<=(M.fg b n).getD i 0/\(M.fg b n).getD i 0<10 ^ 50:=λi hi=>by
  have:=I.nq ((M.fg b n).getD i 0) (by rw [zw,zg hi];exact yg hi)
  exact ⟨this.1,Int.lt_of_lt_of_le this.2 (Int.le_trans b1 (by decide))⟩
 refine comp_map (n:=((M.fg b n).map D.int).length) (item:=λi=>((M.fg b n).map D.int).getD i .non) (p1:=_) (λQ h=>h) (by rw [z9];omega) (λi=>.str (TX.tx ((M.fg b n).getD i 0))) (λi R hi h=>?_) ?_
 ·rw [z9] at hi
  rw [getD_ints hi] at h ⊢
  simp only [Hh]
  exact ⟨(TX.dN (fr i hi).1 (fr i hi).2).lg,h⟩
 rw [z9,PK]
 simp only [Hh]
 exact ⟨HF (by decide) (λx U=>⟨(I.nq x U).1,Int.lt_of_lt_of_le (I.nq x U).2 (Int.le_trans b1 (by decide))⟩) (by omega),q⟩
def S_Z:fK:=λas R=>∃n b:Int,as=[.d (.int b),.d (.lst [.int n])]/\2<=b/\b<=36/\0<=n/\n<=10 ^ 40/\R (.rd (.str (if M.dh b n=true then "yes" else "no"))) as
theorem afb (T:Zs K mg cs):Ok P w base 5 T.dB S_Z:=by
 have B:=Pq P w base T
 refine T.dB.F.gU ael (λas R h=>?_) (λO A outer s H E C as R I D h=>?_)
 ·obtain ⟨_,_,rfl,_⟩:=h;rfl
 have Y:=D.units
 obtain ⟨n,b,rfl,U,b1,J,n1,q⟩:=h
 obtain ⟨n2,_⟩:=qI n1
 refine ⟨_,(sr (nP (eZ (aq (aj I T.cO B D.m (a2 (qx I (qv 1)) (qv 0))))) qs qs)),?_⟩
 simp only [Hh]
 refine ⟨J,n2,U,b1,?_⟩
 simp only [Hh]
 refine aaZ (λz=>?_) (λz=>?_)
 ·simp only [Hh]
  rw [zo z] at q;exact q
 ·simp only [Hh]
  rw [zh (by rw [z];decide)] at q;exact q
def S_L:fK:=λas R=>∃n b:Int,as=[.d (.int b),.d (.lst [.int n])]/\2<=b/\b<=36/\0<=n/\n<=10 ^ 40/\∀t:Str,R (.rd (.str t)) as
theorem afc (T:Zs K mg cs):Ok P w base 6 T.b_ S_L:=by
 have z:=YM P w base T
 refine T.b_.F.gU aeo (λas R h=>?_) (λO A outer s H E C as R I B h=>?_)
 ·obtain ⟨_,_,rfl,_⟩:=h;rfl
 have Y:=B.units
 obtain ⟨n,b,rfl,U,b1,J,n1,q⟩:=h
 obtain ⟨n2,n3⟩:=qI n1
 refine ⟨_,(sr (fY rfl T.iB (a1 (aq (aj I T.jg z B.m (a2 (qx I (qv 1)) (qv 0))))))),?_⟩
 simp only [Hh]
 refine ⟨J,n2,U,b1,λm D=>?_⟩
 simp only [Hh]
 refine ⟨PL D.mp.1 (xr D.le n3),?_⟩
 simp only [Hh]
 exact q _
def S_M:fK:=λas R=>∃n b:Int,as=[.d (.int b),.d (.lst [.int n])]/\2<=b/\b<=36/\0<=n/\n<=10 ^ 40/\∀t:Str,R (.rd (.str t)) as
theorem abI {b n m:Int} (B:2<=b) (D:b<=36) (h0:0<=n) (h:n<=10 ^ 40) (I:M.AL b n m):m<2 ^ 1100:=by
 have h1:=I.bot _ (M.jW B (M.ln b n)) (by have:=M.iw B h0;omega)
 have e:(36:Int) * 10 ^ 40<2 ^ 1100:=by decide
 by_cases z:1<=n
 ·have h2:=M.gC B z
  have h3:b ^ (M.ln b n)=b ^ (M.ln b n - 1) * b:=by
   have:=M.eE B h0
   rw [<-zI,Nat.succ_eq_add_one,Nat.sub_add_cancel this]
  have p:=M.au (show 0<b by omega) (M.ln b n - 1)
  have h4:b ^ (M.ln b n - 1) * b<=n * 36:=yC h2 D (by omega) h0
  rw [h3] at h1
  omega
 ·have:n=0:=by omega
  subst this
  have:=I.bot 0 (M.fH (by decide) (by omega)) (by decide)
  omega
theorem afd (T:Zs K mg cs):Ok P w base 6 T.cj S_M:=by
 have z:=aeK P w base T
 refine T.cj.F.gU aep (λas R h=>?_) (λU A outer s H E C as R J D h=>?_)
 ·obtain ⟨_,_,rfl,_⟩:=h;rfl
 have Y:=D.units
 obtain ⟨n,b,rfl,O,b1,B,n1,q⟩:=h
 obtain ⟨n2,n3⟩:=qI n1
 refine ⟨_,(sr (fY rfl T.iB (a1 (aq (aj J T.mU z D.m (a2 (qx J (qv 1)) (qv 0))))))),?_⟩
 simp only [Hh]
 refine ⟨B,n2,O,b1,λm I=>?_⟩
 simp only [Hh]
 refine ⟨PL I.mp.1 (abI O b1 B n1 I),?_⟩
 simp only [Hh]
 exact q _
def S_N:fK:=λas R=>∃n b:Int,as=[.d (.int b),.d (.lst [.int n])]/\2<=b/\b<=36/\0<=n/\n<=10 ^ 40/\R (.rd (.str (TX.tx (M.cnt b n)))) as
theorem PN (b n:Int):0<=M.cnt b n:=by rw [<-M.n_];omega
theorem Y4 {b n:Int} (B:2<=b) (D:b<=36) (h0:0<=n) (h:n<=10 ^ 40):0<=M.cnt b n/\M.cnt b n<10 ^ 24:=by
 obtain ⟨m,z⟩:=M.G_ B n.toNat
 rw [show ((n.toNat:Nat):Int)=n by omega] at z
 have e:=M.xN B h0 z
 have:=M.U5 B D z.mp (Int.le_trans z.le h)
 rw [e] at this
 exact ⟨PN b n,this⟩
theorem afe (T:Zs K mg cs):Ok P w base 7 T.cz S_N:=by
 have z:=aby P w base T
 refine T.cz.F.gU aer (λas R h=>?_) (λO A outer s H E C as R I D h=>?_)
 ·obtain ⟨_,_,rfl,_⟩:=h;rfl
 have Y:=D.units
 obtain ⟨n,b,rfl,J,b1,B,n1,q⟩:=h
 obtain ⟨n2,n3⟩:=qI n1
 obtain ⟨c0,U⟩:=Y4 J b1 B n1
 refine ⟨_,(sr (fY rfl T.iB (a1 (aq (aj I T.qe z D.m (a2 (qx I (qv 1)) (qv 0))))))),?_⟩
 simp only [Hh]
 refine ⟨B,n2,J,b1,?_⟩
 simp only [Hh]
 refine ⟨(TX.dN c0 (xa U (by decide))).lg,?_⟩
 simp only [Hh]
 exact q
def abJ:fK:=λas R=>∃n b:Int,as=[.d (.int b),.d (.lst [.int n])]/\2<=b/\b<=36/\0<=n/\n<=10 ^ 20/\∀t:Str,R (.rd (.str t)) as
theorem abK (T:Zs K mg cs):Ok P w base 4 T.dD abJ:=by
 have z:=aeN P w base T
 refine T.dD.F.gU abi (λas R h=>?_) (λU A outer s H E C as R D B h=>?_)
 ·obtain ⟨_,_,rfl,_⟩:=h;rfl
 have Z:=B.units
 obtain ⟨n,b,rfl,Y,b1,I,n1,q⟩:=h
 refine ⟨_,(sr (fY rfl T.iB (a1 (aq (aj D T.iM z B.m (a2 (qx D (qv 1)) (qv 0))))))),?_⟩
 simp only [Hh]
 refine ⟨I,by omega,Y,b1,λm J _ O=>?_⟩
 simp only [Hh]
 refine ⟨PL J.1 O,?_⟩
 simp only [Hh]
 exact q _
def S_u:fK:=λas R=>∃n b:Int,as=[.d (.int b),.d (.lst [.int n])]/\2<=b/\b<=36/\0<=n/\n<=10 ^ 40/\M.dh b n=true/\∀t:Str,R (.rd (.str t)) as
theorem afg (T:Zs K mg cs):Ok P w base 6 T.aW S_u:=by
 have O:=abw P w base T
 refine T.aW.F.gU abj (λas R h=>?_) (λZ A outer s H E C as R Y U h=>?_)
 ·obtain ⟨_,_,rfl,_⟩:=h;rfl
 have hu:=U.units
 obtain ⟨n,b,rfl,J,b1,z,n1,I,q⟩:=h
 obtain ⟨n2,n3⟩:=qI n1
 have B:=M.U5 J b1 ⟨z,I⟩ n1
 have D:0<=M.pl b n:=by rw [M.xN J z (M.AM.self ⟨z,I⟩)];exact PN b n
 refine ⟨_,(sr (fY rfl T.iB (a1 (aq (aj Y T.eG O U.m (a2 (qx Y (qv 1)) (qv 0))))))),?_⟩
 simp only [Hh]
 refine ⟨⟨z,I⟩,n2,J,b1,?_⟩
 simp only [Hh]
 refine ⟨(TX.dN D (xa B (by decide))).lg,?_⟩
 simp only [Hh]
 exact q _
def S_U:fK:=λas R=>∃n b:Int,as=[.d (.int b),.d (.lst [.int n])]/\2<=b/\b<=36/\0<=n/\n<=10 ^ 40/\∀L,M.Fw b n L->R (.rd (.str (wt L))) as
theorem abL {b n:Int} {L:List Int} (z:2<=b) (h:n<=10 ^ 40) (f:M.Fw b n L):Wz L:=by
 have e:(10:Int) ^ 40<2 ^ 1100:=by decide
 have l:=f.len z 1100 (xr h e)
 exact ⟨λx B=>by have:=f.all z x B;exact ⟨this.1,by omega⟩,by omega⟩
theorem afh (T:Zs K mg cs):Ok P w base 7 T.cY S_U:=by
 have I:=T6 P w base T
 have z:=abD P w base T
 refine T.cY.F.gU aeu (λas R h=>?_) (λU A outer s H E C as R D B h=>?_)
 ·obtain ⟨_,_,rfl,_⟩:=h;rfl
 have Y:=B.units
 obtain ⟨n,b,rfl,J,b1,O,n1,q⟩:=h
 obtain ⟨n2,n3⟩:=qI n1
 refine ⟨_,(aH (bU (aj D T.fV I B.m (a1 (aq (aj D T.Ac z B.m (a2 (qx D (qv 1)) (qv 0)))))))),?_⟩
 simp only [Hh]
 refine ⟨O,n2,J,b1,λL hL=>?_⟩
 simp only [Hh]
 exact ⟨abL J n1 hL,q L hL⟩
def S_V:fK:=λas R=>∃n b:Int,as=[.d (.int b),.d (.lst [.int n])]/\2<=b/\b<=36/\0<=n/\n<=10 ^ 6/\∀t:Str,R (.rd (.str t)) as
theorem afi (T:Zs K mg cs):Ok P w base 7 T.cZ S_V:=by
 have z:=ae0 P w base T
 refine T.cZ.F.gU aew (λas R h=>?_) (λO A outer s H E C as R D B h=>?_)
 ·obtain ⟨_,_,rfl,_⟩:=h;rfl
 have U:=B.units
 obtain ⟨n,b,rfl,I,b1,J,n1,q⟩:=h
 refine ⟨_,(sr (fY rfl T.iB (a1 (aq (aj D T.iQ z B.m (a2 (qx D (qv 1)) (qv 0))))))),?_⟩
 have l:(M.tw b n).length<=10 ^ 6:=zY (List.length_filter_le _ _) (by
  have h0:(0:Int)<=n / 2:=by omega
  have:=oU I b1 h0 (by omega)
  omega)
 simp only [Hh]
 refine ⟨J,n1,I,b1,?_⟩
 simp only [Hh]
 refine ⟨(TX.dN (by omega) (by omega)).lg,?_⟩
 simp only [Hh]
 exact q _
theorem mY:∀{L:List Int},(∀x∈L,(1:Int)<=x)->∀x∈L,x<=L.sum/\0<=L.sum
 | [],_,x,n=>by cases n
 | y::r,h,x,n=>by
  have D:=h y zt
  rw [xh]
  have B:0<=r.sum:=by
   cases r with
   | nil=>simp
   | cons z r=>exact (mY (λx n=>h x (zn _ n)) z zt).2
  rcases zm.mp n with rfl|n
  ·omega
  ·have:=(mY (λx n=>h x (zn _ n)) x n).1
   omega
def S_H:fK:=λas R=>∃n b:Int,as=[.d (.int b),.d (.lst [.int n])]/\2<=b/\b<=36/\0<=n/\n<=10 ^ 6/\∀t:Str,R (.rd (.str t)) as
theorem afj (T:Zs K mg cs):Ok P w base 24 T.bQ S_H:=by
 have I:=T6 P w base T
 have D:=ae4 P w base T
 refine T.bQ.F.gU aey (λas R h=>?_) (λZ A outer s H E C as R B z h=>?_)
 ·obtain ⟨_,_,rfl,_⟩:=h;rfl
 have hu:=z.units
 obtain ⟨n,b,rfl,U,b1,J,n1,q⟩:=h
 refine ⟨_,(aH (bU (aj B T.fV I z.m (a1 (aq (aj B T.uv D z.m (a2 (qx B (qv 1)) (qv 0)))))))),?_⟩
 simp only [Hh]
 refine ⟨J,n1,U,b1,λL hL=>?_⟩
 simp only [Hh]
 refine ⟨?_,q _⟩
 have w:=hL.way
 have k:=M.Fq U 20 J (xr n1 (by decide))
 refine ⟨λx O=>⟨(w.mem x O).1,?_⟩,by rw [w.len];omega⟩
 have:=mY (λy Y=>(w.mem y Y).1) x O
 rw [w.sum] at this
 omega
def S_G:fK:=λas R=>∃(n b:Int) (k:Nat),as=[.d (.int b),.d (.lst [.int n,.int k])]/\2<=b/\b<=36/\0<=n/\n<=500/\k<=12/\R (.rd (.str (TX.tx (M.cg true (M.bH b n).reverse k n)))) as
theorem T7 (b:Int) {n:Int} (z:0<=n) (n1:n<=500):M.cnt b n<=500:=by
 have h:∀m:Nat,M.xM b m<=m:=λm=>by
  induction m with
  | zero=>exact yS _
  | succ m ih=>unfold M.xM;split<;>omega
 have:=h n.toNat
 unfold M.cnt
 omega
theorem Vg {b n:Int} {k:Nat} (Y:2<=b) (U:b<=36) (D:0<=n) (n1:n<=500) (k1:k<=12):0<=M.cg true (M.bH b n).reverse k n/\M.cg true (M.bH b n).reverse k n<10 ^ 50:=by
 refine ⟨M.vK _ _ _,?_⟩
 have h1:=M.U9 (M.bH b n).reverse k n
 rw [yX] at h1
 have h3:=T7 b D n1
 rw [<-M.n_] at h3
 have h4:∀(x:Int) (k:Nat),0<=x->x<=500->0<=x ^ k/\x ^ k<=500 ^ k:=λx k z B=>by
  induction k with
  | zero=>simp
  | succ k ih=>
   rw [zI,zI]
   exact ⟨Int.mul_nonneg ih.1 z,yC ih.2 B z (by omega)⟩
 have O:(500:Int) ^ k<=500 ^ 12:=M.bF (by decide) k1
 have J:(500:Int) ^ 12<10 ^ 50:=by decide
 have I:=(h4 _ k (by omega) h3).2
 omega
theorem afk (T:Zs K mg cs):Ok P w base 6 T.cQ S_G:=by
 have z:=aeS P w base T
 refine T.cQ.F.gU YD (λas R h=>?_) (λO A outer s H E C as R I D h=>?_)
 ·obtain ⟨_,_,_,rfl,_⟩:=h;rfl
 have Y:=D.units
 obtain ⟨n,b,k,rfl,J,b1,B,n1,k1,q⟩:=h
 obtain ⟨c0,U⟩:=Vg J b1 B n1 k1
 refine ⟨_,(bf (gB (qv 1) (EY (n:=2) I rfl (aX (aK (i:=2) YD.nd rfl lc) (aX (aK (i:=3) YD.nd rfl lc) fc))))
    (sr (fY rfl T.iB (a1 (aq (aj I T.j8 z D.m (a3 (qv 2) (qv 0) (qv 3)))))))),?_⟩
 simp only [Hh]
 refine ⟨B,by omega,J,b1,by omega,?_⟩
 simp only [Hh]
 refine ⟨(TX.dN c0 U).lg,?_⟩
 simp only [Hh]
 exact q
def S_p:fK:=λas R=>∃(n b pl:Int) (k:Nat),as=[.d (.int b),.d (.lst [.int n,.int k,.int pl])]/\2<=b/\b<=36/\0<=n/\n<=500/\k<=12/\0<=pl/\pl<M.cg true (M.bH b n).reverse k n/\∀t:Str,R (.rd (.str t)) as
theorem afl (T:Zs K mg cs):Ok P w base 6 T.bw S_p:=by
 have I:=T6 P w base T
 have D:=aeW P w base T
 refine T.bw.F.gU Dc (λas R h=>?_) (λU A outer s H E C as R B z h=>?_)
 ·obtain ⟨_,_,_,_,rfl,_⟩:=h;rfl
 have Z:=z.units
 obtain ⟨n,b,pl,k,rfl,Y,b1,J,n1,k1,p0,p1,q⟩:=h
 refine ⟨_,(bf (gB (qv 1) (EY (n:=3) B rfl (aX (aK (i:=2) Dc.nd rfl lc) (aX (aK (i:=3) Dc.nd rfl lc) (aX (aK (i:=4) Dc.nd rfl lc) fc)))))
    (aH (bU (aj B T.fV I z.m (a1 (aq (aj B T.ji D z.m (aF (qv 2) (a3 (qv 0) (qv 3) (qv 4)))))))))),?_⟩
 simp only [Hh]
 refine ⟨J,by omega,Y,b1,by omega,p0,p1,λL h1 h2=>?_⟩
 simp only [Hh]
 exact ⟨⟨λx O=>by have:=h1 x O;omega,by omega⟩,q _⟩
def X_a (cs:XA):Je:=λas n=>∃i:Int,as=[.d (.int i)]/\¬(2<=i/\i<=36)/\n=cs.bG
theorem abM (T:Zs K mg cs):YK P w base 2 T.az (X_a cs):=by
 have D:=Pk P w base T
 obtain ⟨z,dJ⟩:=T.dJ
 obtain ⟨n,cD⟩:=T.cD
 refine T.az.F.Zi abd (λas Y h=>?_) (λU A outer s H E C as Y XE O I h B lk J=>?_)
 ·obtain ⟨_,rfl,_⟩:=h;exact ⟨rfl,CW [_]⟩
 have Z:=I.units
 obtain ⟨i,rfl,hi,rfl⟩:=h
 subst B
 refine ⟨_,(aH (bA (PW.pt (w_or (eN (eZ (aq (aj O T.eF D I.m (a1 (qv 0)))))) (jB (eN (nO jK jK (dY (cB (v:=.int 2) rfl dJ ⟨_,rfl⟩) (λ_=>.int _)) (qv 0) (dY (cB (v:=.int 36) rfl cD ⟨_,rfl⟩) (λ_=>.int _))))))) (aH (wU T.CP rfl J (a1 qs))) aQ)),?_⟩
 simp only [Q,S_s]
 split
 ·split
  ·exact hi ⟨by assumption,by assumption⟩
  ·trivial
 ·trivial
def X_w (cs:XA):Je:=λas z=>∃n b:Int,as=[.d (.int n),.d (.int b)]/\0<=n/\n<M.uQ/\2<=b/\b<=36/\M.dh b n=false/\z=cs.aR
theorem abN (T:Zs K mg cs):YK P w base 5 T.eG (X_w cs):=by
 have I:=jF P w base T
 have D:=Pq P w base T
 refine T.eG.F.Zi Th (λas Cl h=>?_) (λcdv A outer s H E C as Cl XE J z h B lk Y=>?_)
 ·obtain ⟨_,_,rfl,_⟩:=h;exact ⟨rfl,CW [_,_]⟩
 have hu:=z.units
 obtain ⟨n,b,rfl,U,n1,O,b1,Z,rfl⟩:=h
 subst B
 refine ⟨_,(bf (pJ (aq (aj J T.az I z.m (a1 (qv 1))))) (vq (bA (eN (eZ (aq (aj J T.cO D z.m (a2 (qv 0) (qv 1)))))) (aH (wU T.uo rfl Y (a1 qs))) aQ))),?_⟩
 simp only [Hh]
 refine ⟨O,b1,?_⟩
 simp only [Hh]
 refine ⟨U,n1,O,b1,?_⟩
 simp only [Hh]
 rw [Z]
 simp only [Q]
def X_x (cs:XA):Je:=λas z=>∃(n b pl:Int) (k:Nat),as=[.d (.int n),.d (.int b),.d (.int k),.d (.int pl)]/\0<=n/\n<=2000/\2<=b/\b<=36/\k<=2000/\0<=pl/\M.cg true (M.bH b n).reverse k n<=pl/\z=cs.bh
theorem abO (T:Zs K mg cs):YK P w base 5 T.ji (X_x cs):=by
 have Ak:=jF P w base T
 have Y:=Pk P w base T
 have Z:=Pu P w base T
 have G_C:=YT P w base T
 refine T.ji.F.Zi oM (λas Cl h=>?_) (λcdv A outer s H E C as Cl XE B I h U lk lr=>?_)
 ·obtain ⟨_,_,_,_,rfl,_⟩:=h;exact ⟨rfl,CW [_,_,_,_]⟩
 have hu:=I.units
 obtain ⟨n,b,pl,k,rfl,J,n1,b0,b1,k1,l0,l1,rfl⟩:=h
 subst U
 refine ⟨_,(Ew (aV (a_ (λW ok=>(pJ (aq (aj B T.az Ak I.m (a1 (qv 1))))))) (aV (a_ (λW ok=>(bA (PW.pt (w_or (eN (eZ (aq (aj B T.eF Y I.m (a1 (qv 3)))))) (jB (uK (qv 3) qi)))) (aH (wU T.pY rfl (wj.add lr ok) (a1 qs))) aQ))) (aV (a_ (λW ok=>(aD (i:=4) oM.nd rfl lc (aq (aj B T.cP Z I.m (a2 (qv 0) (qv 1))))))) (aV (tW (i:=5) oM.nd rfl lc (jT B T.jh G_C I.m (λW ok=>(a3 (qv 4) (qv 0) (qv 2))))) (v_cut (a_ (λW ok=>(bA (Lp (qv 3) (gW ok B (gW ok B (qv 5) (qv 2) (λ_ _=>rfl)) (qv 0) (λ_ _=>rfl))) (aH (wU T.pY rfl (wj.add lr ok) (a1 qs))) aQ))))))))),?_⟩
 show wW _ _ _ _ _
 refine bx λO z=>?_
 simp only [Hg]
 refine ⟨b0,b1,z _ _ ?_⟩
 refine bx λO z=>?_
 simp only [R,S_s]
 rw [zh (by omega)]
 refine z _ _ ?_
 refine bx λO z=>?_
 simp only [R,S_d]
 refine ⟨J,by omega,b0,b1,z _ _ ?_⟩
 refine bx λO z=>?_
 simp only [R,S_C]
 have bd:=FQ (b:=b) (n:=n) J
 refine ⟨M.bH b n,rfl,n.toNat,by omega,k,rfl,by omega,k1,λy hy=>?_,M.jr b n,λW' x ms hM hT=>z _ _ ?_⟩
 ·have:=bd y hy
  omega
 have g:=hT.val k n.toNat (zx _) (zx _)
 rw [show ((n.toNat:Nat):Int)=n by omega] at g
 have rd:∃(bs:List Addr) (b':Addr) (r:List Int),W' x=some (.lst (bs.map V.ref))/\gA (bs.map V.ref) (k:Int)=some (.ref b')/\W' b'=some (.lst (List.map V.int r))/\gA (List.map V.int r) n=some (.int (M.cg true (M.bH b n).reverse k n)):=by
  obtain ⟨bs,hx,nx,D⟩:=hM
  have hb:=D.len
  have hl:=hT.Jq.len
  obtain ⟨r,s1,y1⟩:=M.jX g
  obtain ⟨b',e1⟩:∃b',bs[k]? = some b':=⟨_,zg (by omega)⟩
  exact ⟨bs,b',r,hx,fu (by omega) (by rw [xj];exact e1),D.at_ _ _ _ e1 s1,jc J y1⟩
 obtain ⟨bs,b',r,r1,r2,r3,r4⟩:=rd
 show Nr _ _ _ _
 unfold Nr
 simp only [R,r1,r2,r3,r4]
 rw [zo l1];trivial
def X_u (cs:XA):Je:=λas z=>∃n b:Int,as=[.d (.int b),.d (.lst [.int n])]/\0<=n/\n<M.uQ/\2<=b/\b<=36/\M.dh b n=false/\z=cs.aR
theorem abP (T:Zs K mg cs):YK P w base 6 T.aW (X_u cs):=by
 have z:=abN P w base T
 refine T.aW.F.Zi abj (λas Z h=>?_) (λU A outer s H E C as Z XE I D h B lk lr=>?_)
 ·obtain ⟨_,_,rfl,_⟩:=h;exact ⟨rfl,CW [_,_]⟩
 have hu:=D.units
 obtain ⟨n,b,rfl,J,n1,Y,b1,O,rfl⟩:=h
 subst B
 refine ⟨_,(vq (bU (qz (fY rfl T.iB (a1 (aq (kI I T.eG z D.m lk (a2 (qx I (qv 1)) (qv 0))))))))),?_⟩
 simp only [Hh]
 exact ⟨_,cs.aR,rfl,x6,⟨n,b,rfl,J,n1,Y,b1,O,rfl⟩,rfl⟩
def X_p (cs:XA):Je:=λas z=>∃(n b pl:Int) (k:Nat),as=[.d (.int b),.d (.lst [.int n,.int k,.int pl])]/\0<=n/\n<=2000/\2<=b/\b<=36/\k<=2000/\0<=pl/\M.cg true (M.bH b n).reverse k n<=pl/\z=cs.bh
theorem abQ (T:Zs K mg cs):YK P w base 6 T.bw (X_p cs):=by
 have z:=abO P w base T
 have J:=T6 P w base T
 refine T.bw.F.Zi Dc (λas Cl h=>?_) (λY A outer s H E C as Cl XE I B h D lk lr=>?_)
 ·obtain ⟨_,_,_,_,rfl,_⟩:=h;exact ⟨rfl,CW [_,_]⟩
 have hu:=B.units
 obtain ⟨n,b,pl,k,rfl,O,n1,Z,b1,k1,l0,U,rfl⟩:=h
 subst D
 refine ⟨_,(bf (gB (qv 1) (EY (n:=3) I rfl (aX (aK (i:=2) Dc.nd rfl lc) (aX (aK (i:=3) Dc.nd rfl lc) (aX (aK (i:=4) Dc.nd rfl lc) fc))))) (vq (bU (aj I T.fV J B.m (a1 (aq (kI I T.ji z B.m lk (aF (qv 2) (a3 (qv 0) (qv 3) (qv 4)))))))))),?_⟩
 simp only [Hh]
 exact ⟨_,cs.bh,rfl,x6,⟨n,b,pl,k,rfl,O,n1,Z,b1,k1,l0,U,rfl⟩,rfl⟩
structure j9 (b:Int) (f:Str) (ns:List Int) (t:Str):Prop where
 kZ:f=("figures":Str)->t=Txt.join TX.qH ((M.fg b (ns.getD 0 0)).map TX.tx)
 is_:f=("is":Str)->t=if M.dh b (ns.getD 0 0)=true then ("yes":Str) else "no"
 count:f=("count":Str)->t=TX.tx (M.cnt b (ns.getD 0 0))
 few:f=("few":Str)->∃L,M.Fw b (ns.getD 0 0) L/\t=wt L
 ways:f=("ways":Str)->t=TX.tx (M.cg true (M.bH b (ns.getD 0 0)).reverse (ns.getD 1 0).toNat (ns.getD 0 0))
theorem gZ {b:Int} {f:Str} {ns:List Int} {t:Str} (h:[Str.ofString "figures",Str.ofString "is",Str.ofString "count",Str.ofString "few",Str.ofString "ways"].contains f=false):j9 b f ns t:=by
 have n:∀g,g∈[Str.ofString "figures",Str.ofString "is",Str.ofString "count",Str.ofString "few",Str.ofString "ways"]->f≠g:=λg B e=>by
  rw [e,List.contains_iff_mem.mpr B] at h;cases h
 exact ⟨λz=>absurd z (n _ (by simp)),λz=>absurd z (n _ (by simp)),λz=>absurd z (n _ (by simp)),λz=>absurd z (n _ (by simp)),λz=>absurd z (n _ (by simp))⟩
structure Good (b:Int) (f:Str) (ns:List Int):Prop where
 nb:f≠("base":Str)
 place:f=("place":Str)->M.dh b (ns.getD 0 0)=true
 way:f=("way":Str)->ns.getD 2 0<M.cg true (M.bH b (ns.getD 0 0)).reverse (ns.getD 1 0).toNat (ns.getD 0 0)
def Dk (cl:Addr) (H:Hp) (x:Addr) (b:Int):Prop:=(∃dx,H x=some (.ins cl dx [("base",.int b)]))/\2<=b/\b<=36
def AT (m:Nat) (t:Str):Prop:=t.cps.all (·<128)=true/\t.length<=m
def vM (cl:Addr):JK:=λH as R=>∃(x:Addr) (b:Int) (w f:Str) (ns:List Int),as=[.d (.atom (.ref x)),.d (.str w)]/\Dk cl H x b/\AT 50000 w/\TX.rowOf w=some (f,ns)/\Good b f ns/\∀t,j9 b f ns t->R (.rd (.str t)) as
inductive mZ (T:Zs K mg cs):Addr->fK->Prop
 | oA:mZ T T.bJ.f S_B
 | is_:mZ T T.dB.f S_Z
 | x_:mZ T T.b_.f S_L
 | y_:mZ T T.cj.f S_M
 | z_:mZ T T.cz.f S_N
 | at_:mZ T T.dD.f abJ
 | jY:mZ T T.aW.f S_u
 | S_:mZ T T.cY.f S_U
 | two_:mZ T T.cZ.f S_V
 | rP:mZ T T.bQ.f S_H
 | HB:mZ T T.cQ.f S_G
 | CK:mZ T T.bw.f S_p
theorem afm {k:Nat} {A:Around} (T:Zs K mg cs) (n:bO k A) (z:24<=k) {f:Addr} {S:fK} (h:mZ T f S):∃k fd ps,bV P w K mg base m7 k f fd ps (Jb K S)/\bO k A/\Binds K fd ps []/\PySem.W.keepIn K (.ref f)=true:=by
 cases h
 ·exact ⟨_,_,_,afa _ _ _ T,n.mono (by omega),T.bJ.b,T.bJ.F.kp⟩
 ·exact ⟨_,_,_,afb _ _ _ T,n.mono (by omega),T.dB.b,T.dB.F.kp⟩
 ·exact ⟨_,_,_,afc _ _ _ T,n.mono (by omega),T.b_.b,T.b_.F.kp⟩
 ·exact ⟨_,_,_,afd _ _ _ T,n.mono (by omega),T.cj.b,T.cj.F.kp⟩
 ·exact ⟨_,_,_,afe _ _ _ T,n.mono (by omega),T.cz.b,T.cz.F.kp⟩
 ·exact ⟨_,_,_,abK _ _ _ T,n.mono (by omega),T.dD.b,T.dD.F.kp⟩
 ·exact ⟨_,_,_,afg _ _ _ T,n.mono (by omega),T.aW.b,T.aW.F.kp⟩
 ·exact ⟨_,_,_,afh _ _ _ T,n.mono (by omega),T.cY.b,T.cY.F.kp⟩
 ·exact ⟨_,_,_,afi _ _ _ T,n.mono (by omega),T.cZ.b,T.cZ.F.kp⟩
 ·exact ⟨_,_,_,afj _ _ _ T,n.mono (by omega),T.bQ.b,T.bQ.F.kp⟩
 ·exact ⟨_,_,_,afk _ _ _ T,n.mono (by omega),T.cQ.b,T.cQ.F.kp⟩
 ·exact ⟨_,_,_,afl _ _ _ T,n.mono (by omega),T.bw.b,T.bw.F.kp⟩
abbrev Y5 (T:Zs K mg cs):List (Str × Addr):=[((Str.ofString "figures"),T.bJ.f),((Str.ofString "is"),T.dB.f),((Str.ofString "below"),T.b_.f),((Str.ofString "above"),T.cj.f),((Str.ofString "count"),T.cz.f),((Str.ofString "at"),T.dD.f),((Str.ofString "place"),T.aW.f),((Str.ofString "few"),T.cY.f),((Str.ofString "two"),T.cZ.f),((Str.ofString "fewest"),T.bQ.f),((Str.ofString "ways"),T.cQ.f),((Str.ofString "way"),T.bw.f)]
theorem abR {f:Str} (h:f≠("base":Str)):(f=Str.ofString "base")=False:=eq_false h
theorem oV (b:Int):List.lookup (Str.ofString "base") [((Str.ofString "base"),V.int b)]=some (V.int b):=by simp
theorem uA (T:Zs K mg cs):bV P w K mg base m7 25 T.Ph T.Dd ["self","words"] (Zh K (vM T.cl)):=by
 have G_e:=YZ P w base T
 have Ak:=jF P w base T
 refine T.YH.Xc cU (λH as R h=>?_) (λcdv A outer s H E C as R O JC hbs Y h=>?_)
 ·obtain ⟨_,_,_,_,_,rfl,_⟩:=h;rfl
 have hu:=Y.units
 have hG:=λf S (h:mZ T f S)=>afm P w base T Y (by decide) h
 obtain ⟨x,b,w,f,ns,rfl,⟨⟨dx,hx⟩,I,b1⟩,⟨wa,wl⟩,U,Z,q⟩:=h
 have h0:C.bs=[]:=pR (ds:=[.atom (.ref x),.str w]) hbs
 subst JC
 have Tz:=TX.Aa U
 have hnb:=abR Z.nb
 refine ⟨_,(bf (gB (aq (aj O T.bZ G_e Y.m (a1 (qv 1)))) (jO (n:=2) O rfl (aX (aK (i:=2) cU.nd rfl lc) (aX (aK (i:=3) cU.nd rfl lc) fc))))
    (bf (bA (gF O hu (qv 2) qs) (bf (pJ (aq (aj O T.az Ak Y.m (a1 (qx O (qv 3))))))
    (bf pK
    (sr qs))) aQ)
    (bf (aD (i:=4) cU.nd rfl lc (Cq T.kA rfl T.mA (qv 2) (λ_ _=>rfl)))
    (aH (bU (Sv O (qv 4) hG (a2 (E_ h0 O (qv 0)) (qv 3)))))))),?_⟩
 refine ak λkk J=>?_
 simp only [R,S_e]
 refine ⟨wa,wl,f,ns,U,?_⟩
 simp only [Hg]
 refine J _ ?_
 refine ak λkk J=>?_
 simp only [R,hnb]
 refine J _ ?_
 refine ak λkk J=>?_
 suffices key:∃fa S,PyProof.Rows.KTD.datumAt f (Y5 T)=some fa/\mZ T fa S/\∀B:Rt->List Sl->Prop,(∀t,j9 b f ns t->B (.rd (.str t)) [.d (.int b),.d (.lst (ns.map D.int))])->S [.d (.int b),.d (.lst (ns.map D.int))] B by
  obtain ⟨fa,S,h1,h2,h3⟩:=key
  simp only [R,h1]
  refine J _ ?_
  simp only [Q,oV]
  exact ⟨S,h2,_,_,_,hx,O▸T.cls,O▸T.na,_,oV b,h3 _ λt ht=>q t ht⟩
 cases Tz with
 | uh=>exact absurd rfl Z.nb
 | oA n0 n1=>exact ⟨_,_,by kernel_rfl,.oA,λB h=>⟨_,_,rfl,I,b1,n0,n1,h _ ⟨λ_=>rfl,λz=>absurd z (by decide),λz=>absurd z (by decide),λz=>absurd z (by decide),λz=>absurd z (by decide)⟩⟩⟩
 | is_ n0 n1=>exact ⟨_,_,by kernel_rfl,.is_,λB h=>⟨_,_,rfl,I,b1,n0,n1,h _ ⟨λz=>absurd z (by decide),λ_=>rfl,λz=>absurd z (by decide),λz=>absurd z (by decide),λz=>absurd z (by decide)⟩⟩⟩
 | x_ n0 n1=>exact ⟨_,_,by kernel_rfl,.x_,λB h=>⟨_,_,rfl,I,b1,n0,n1,λt=>h t (gZ (by decide))⟩⟩
 | y_ n0 n1=>exact ⟨_,_,by kernel_rfl,.y_,λB h=>⟨_,_,rfl,I,b1,n0,n1,λt=>h t (gZ (by decide))⟩⟩
 | z_ n0 n1=>exact ⟨_,_,by kernel_rfl,.z_,λB h=>⟨_,_,rfl,I,b1,n0,n1,h _ ⟨λz=>absurd z (by decide),λz=>absurd z (by decide),λ_=>rfl,λz=>absurd z (by decide),λz=>absurd z (by decide)⟩⟩⟩
 | at_ n0 n1=>exact ⟨_,_,by kernel_rfl,.at_,λB h=>⟨_,_,rfl,I,b1,n0,n1,λt=>h t (gZ (by decide))⟩⟩
 | jY n0 n1=>exact ⟨_,_,by kernel_rfl,.jY,λB h=>⟨_,_,rfl,I,b1,n0,n1,Z.place rfl,λt=>h t (gZ (by decide))⟩⟩
 | S_ n0 n1=>exact ⟨_,_,by kernel_rfl,.S_,λB h=>⟨_,_,rfl,I,b1,n0,n1,λL hL=>h _ ⟨λz=>absurd z (by decide),λz=>absurd z (by decide),λz=>absurd z (by decide),λ_=>⟨L,hL,rfl⟩,λz=>absurd z (by decide)⟩⟩⟩
 | two_ n0 n1=>exact ⟨_,_,by kernel_rfl,.two_,λB h=>⟨_,_,rfl,I,b1,n0,n1,λt=>h t (gZ (by decide))⟩⟩
 | rP n0 n1=>exact ⟨_,_,by kernel_rfl,.rP,λB h=>⟨_,_,rfl,I,b1,n0,n1,λt=>h t (gZ (by decide))⟩⟩
 | HB n0 n1 k1=>exact ⟨_,_,by kernel_rfl,.HB,λB h=>⟨_,_,_,rfl,I,b1,n0,n1,k1,h _ ⟨λz=>absurd z (by decide),λz=>absurd z (by decide),λz=>absurd z (by decide),λz=>absurd z (by decide),λ_=>rfl⟩⟩⟩
 | CK n0 n1 k1 p0 p1=>exact ⟨_,_,by kernel_rfl,.CK,λB h=>⟨_,_,_,_,rfl,I,b1,n0,n1,k1,p0,Z.way rfl,λt=>h t (gZ (by decide))⟩⟩
inductive Bad (cs:XA) (b:Int):D->Addr->Prop
 | text {d:D}:wJ "str" d=some false->Bad cs b d cs.aG
 | row {w:Str}:AT 50000 w->TX.rowOf w=none->Bad cs b (.str w) cs.aG
 | uh {w:Str} {n:Int}:AT 50000 w->TX.rowOf w=some (("base":Str),[n])->¬(2<=n/\n<=36)->Bad cs b (.str w) cs.bG
 | place {w:Str} {n:Int}:AT 50000 w->TX.rowOf w=some (("place":Str),[n])->M.dh b n=false->Bad cs b (.str w) cs.aR
 | way {w:Str} {n pl:Int} {k:Nat}:AT 50000 w->TX.rowOf w=some (("way":Str),[n,k,pl])->M.cg true (M.bH b n).reverse k n<=pl->Bad cs b (.str w) cs.bh
def Vh (cs:XA) (cl:Addr):XHp:=λH as n=>∃(x:Addr) (d:D) (b:Int),as=[.d (.atom (.ref x)),.d d]/\Dk cl H x b/\Bad cs b d n
inductive Y6 (T:Zs K mg cs):Addr->Je->Prop
 | jY:Y6 T T.aW.f (X_u cs)
 | CK:Y6 T T.bw.f (X_p cs)
theorem T8 (T:Zs K mg cs):bV P w K mg base (oY P w) 25 T.Ph T.Dd ["self","words"] (RW K (Vh cs T.cl)):=by
 have Y:=YZ P w base T
 have O:=abH P w base T
 have Ak:=jF P w base T
 have afn:=abM P w base T
 refine T.YH.Xy cU (λH as Cl h=>?_) (λcdv A outer s H E C as Cl XE B JC h0 I h hXE lk lr ln=>?_)
 ·obtain ⟨_,_,_,rfl,_⟩:=h;exact ⟨rfl,CW [_,_]⟩
 have hu:=I.units
 have hGX:∀f S,Y6 T f S->∃k fd ps,bV P w K mg base (oY P w) k f fd ps (spX K S)/\bO k _/\Binds K fd ps []/\PySem.W.keepIn K (.ref f)=true:=λf S h=>by
  cases h
  ·exact ⟨_,_,_,abP _ _ _ T,I.mono (by decide),T.aW.b,T.aW.F.kp⟩
  ·exact ⟨_,_,_,abQ _ _ _ T,I.mono (by decide),T.bw.b,T.bw.F.kp⟩
 obtain ⟨x,d,b,rfl,⟨⟨dx,hx⟩,b0,b1⟩,hb⟩:=h
 subst hXE JC
 cases hb with
 | text h1=>
  refine ⟨_,(vq (gB (aq (kI B T.bZ O I.m lk (a1 (qv 1)))) (jO (n:=2) B rfl (aX (aK (i:=2) cU.nd rfl lc) (aX (aK (i:=3) cU.nd rfl lc) fc))))),?_⟩
  simp only [Hh]
  exact ⟨_,cs.aG,rfl,x6,⟨_,rfl,.inl h1,rfl⟩,rfl⟩
 | row h1 h2=>
  refine ⟨_,(vq (gB (aq (kI B T.bZ O I.m lk (a1 (qv 1)))) (jO (n:=2) B rfl (aX (aK (i:=2) cU.nd rfl lc) (aX (aK (i:=3) cU.nd rfl lc) fc))))),?_⟩
  simp only [Hh]
  exact ⟨_,cs.aG,rfl,x6,⟨_,rfl,.inr ⟨_,rfl,h1.1,h1.2,h2⟩,rfl⟩,rfl⟩
 | uh h1 h2 h3=>
  refine ⟨_,(bf (gB (aq (aj B T.bZ Y I.m (a1 (qv 1)))) (jO (n:=2) B rfl (aX (aK (i:=2) cU.nd rfl lc) (aX (aK (i:=3) cU.nd rfl lc) fc)))) (vq (bA (gF B hu (qv 2) qs) (bf (pJ (aq (kI B T.az afn I.m lk (a1 (qx B (qv 3))))))
    (bf pK
    (sr qs))) aQ))),?_⟩
  simp only [Hh]
  show Exists _
  refine ⟨_,_,_,rfl,h1.1,h1.2,h2,?_⟩
  simp only [Hh]
  refine Sy (λ_=>?_) (λz=>absurd rfl z)
  simp only [Hh]
  exact ⟨_,cs.bG,rfl,x6,⟨_,rfl,h3,rfl⟩,rfl⟩
 | place h1 h2 h3=>
  have J:=TX.Aa h2
  have hd:PyProof.Rows.KTD.datumAt (Str.ofString "place") (Y5 T)=some T.aW.f:=by kernel_rfl
  have U:(Str.ofString "place"=Str.ofString "base")=False:=eq_false (by decide)
  refine ⟨_,(bf (gB (aq (aj B T.bZ Y I.m (a1 (qv 1)))) (jO (n:=2) B rfl (aX (aK (i:=2) cU.nd rfl lc) (aX (aK (i:=3) cU.nd rfl lc) fc))))
    (bf (bA (gF B hu (qv 2) qs) (bf (pJ (aq (aj B T.az Ak I.m (a1 (qx B (qv 3))))))
    (bf pK
    (sr qs))) aQ)
    (bf (aD (i:=4) cU.nd rfl lc (Cq T.kA rfl T.mA (qv 2) (λ_ _=>rfl)))
    (aH (bU (Cu B (qv 4) hGX lk (a2 (E_ h0 B (qv 0)) (qv 3)))))))),?_⟩
  refine ak λZ D=>?_
  simp only [R,S_e]
  refine ⟨h1.1,h1.2,_,_,h2,?_⟩
  simp only [Hg]
  refine D _ ?_
  refine ak λZ D=>?_
  simp only [R,U]
  refine D _ ?_
  refine ak λZ D=>?_
  simp only [R,hd]
  refine D _ ?_
  cases J with
  | jY n0 n1=>
   simp only [Q]
   refine ⟨_,.jY,_,_,_,hx,B▸T.cls,B▸T.na,_,oV b,?_⟩
   exact ⟨_,_,rfl,n0,(qI n1).1,b0,b1,h3,rfl⟩
 | way h1 h2 h3=>
  have J:=TX.Aa h2
  have hd:PyProof.Rows.KTD.datumAt (Str.ofString "way") (Y5 T)=some T.bw.f:=by kernel_rfl
  have U:(Str.ofString "way"=Str.ofString "base")=False:=eq_false (by decide)
  refine ⟨_,(bf (gB (aq (aj B T.bZ Y I.m (a1 (qv 1)))) (jO (n:=2) B rfl (aX (aK (i:=2) cU.nd rfl lc) (aX (aK (i:=3) cU.nd rfl lc) fc))))
    (bf (bA (gF B hu (qv 2) qs) (bf (pJ (aq (aj B T.az Ak I.m (a1 (qx B (qv 3))))))
    (bf pK
    (sr qs))) aQ)
    (bf (aD (i:=4) cU.nd rfl lc (Cq T.kA rfl T.mA (qv 2) (λ_ _=>rfl)))
    (aH (bU (Cu B (qv 4) hGX lk (a2 (E_ h0 B (qv 0)) (qv 3)))))))),?_⟩
  refine ak λZ D=>?_
  simp only [R,S_e]
  refine ⟨h1.1,h1.2,_,_,h2,?_⟩
  simp only [Hg]
  refine D _ ?_
  refine ak λZ D=>?_
  simp only [R,U]
  refine D _ ?_
  refine ak λZ D=>?_
  simp only [R,hd]
  refine D _ ?_
  generalize hk:((_:Nat):Int)=k' at J
  cases J with
  | CK n0 n1 k1 p0 p1=>
   simp only [Q]
   refine ⟨_,.CK,_,_,_,hx,B▸T.cls,B▸T.na,_,oV b,?_⟩
   have e:=Int.ofNat_inj.mp hk
   subst e
   exact ⟨_,_,_,_,rfl,n0,by omega,b0,b1,by omega,p0,h3,rfl⟩
def Y7 (cl:Addr):Ex:=λW ds R=>∃(x dx:Addr) (b n:Int) (w:Str),ds=[.atom (.ref x),.str w]/\W x=some (.ins cl dx [("base",.int b)])/\AT 50000 w/\TX.rowOf w=some (("base":Str),[n])/\2<=n/\n<=36/\R (.str "ok") (upd W x (.ins cl dx [("base",.int n)]))
theorem T9 (T:Zs K mg cs):bV P w K mg base m7 25 T.Ph T.Dd ["self","words"] (JL K (Y7 T.cl)):=by
 have J:=YZ P w base T
 have O:=jF P w base T
 refine T.YH.XR cU (λW ds R h=>?_) (λcdv A outer s H E C W ds R B I h=>?_)
 ·obtain ⟨_,_,_,_,_,rfl,_⟩:=h;rfl
 have hu:=I.units
 obtain ⟨x,dx,b,n,w,rfl,hx,⟨Y,U⟩,D,Z,n1,q⟩:=h
 refine ⟨_,(aV (a_ (λW ok=>(gB (aq (aj B T.bZ J I.m (a1 (qv 1)))) (jO (n:=2) B rfl (aX (aK (i:=2) cU.nd rfl lc) (aX (aK (i:=3) cU.nd rfl lc) fc)))))) (v_cut (aed (λW ok=>(gF B hu (qv 2) qs)) (aV (a_ (λW ok=>(pJ (aq (aj B T.az O I.m (a1 (qx B (qv 3))))))))
    (aV (U0 B (λW ok=>(qv 0)) (λW ok=>(qx B (qv 3))))
    (fj (a_ (λW ok=>(bU (qz qs))))))) aaH))),?_⟩
 simp only [Hh]
 show Exists _
 refine ⟨w,_,_,rfl,Y,U,D,?_⟩
 simp only [Hh]
 refine Sy (λ_=>?_) (λz=>absurd rfl z)
 simp only [Hh]
 refine ⟨Z,n1,?_⟩
 simp only [Hh]
 have ep:iW (Str.ofString "base") (V.int n) [((Str.ofString "base"),V.int b)]=[((Str.ofString "base"),V.int n)]:=by unfold iW;simp
 refine ⟨_,_,_,_,_,rfl,rfl,hx,B▸T.cls,B▸T.na,by simp,?_⟩
 rw [ep]
 simp only [Hh]
 exact q
def HJ (cl:Addr):Ex:=λW ds R=>∃x dx:Addr,ds=[.atom (.ref x)]/\W x=some (.ins cl dx [])/\R .non (upd W x (.ins cl dx [("base",.int 10)]))
theorem T_ (T:Zs K mg cs):bV P w K mg base m7 1 T.YJ T.Pj ["self"] (JL K (HJ T.cl)):=by
 obtain ⟨n,ju⟩:=T.ju
 refine T.aeH.XR abp (λW ds R h=>?_) (λI A outer s H E C W ds R z D h=>?_)
 ·obtain ⟨_,_,rfl,_⟩:=h;rfl
 have J:=D.units
 obtain ⟨x,dx,rfl,B,q⟩:=h
 refine ⟨_,(fj (U0 z (λW ok=>(qv 0)) (λW ok=>(dY (cB (v:=.int 10) rfl ju ⟨_,rfl⟩) (λ_=>.int _))))),?_⟩
 simp only [Q]
 exact ⟨_,_,_,B,z▸T.cls,z▸T.na,by simp,q⟩
def atB (m:Nat) (t:Str):Bool:=t.cps.all (·<128) && decide (t.length<=m)
theorem AT.uF {m:Nat} {t:Str} (h:atB m t=true):AT m t:=by
 unfold atB at h
 rw [yy,yw] at h
 exact h
theorem AT.mono {m n:Nat} {t:Str} (h:AT m t) (l:m<=n):AT n t:=⟨h.1,zY h.2 l⟩
theorem AT.mem {m:Nat} {t:Str} (h:AT m t):∀c∈t.cps.toList,c<128:=λc n=>by
 have:=h.1
 rw [<-yY,zP] at this
 exact yG (this c n)
theorem AT.of {m:Nat} {t:Str} (h:∀c∈t.cps.toList,c<128) (l:t.length<=m):AT m t:=by
 refine ⟨?_,l⟩
 rw [<-yY,zP]
 exact λc n=>zZ (h c n)
theorem AT.cat {m n:Nat} {t u:Str} (h:AT m t) (g:AT n u):AT (m+n) (t++u):=by
 have e:=TX.ou t u
 refine .of (λc z=>?_) ?_
 ·rw [e] at z
  rcases zK.mp z with z|z
  ·exact h.mem c z
  ·exact g.mem c z
 ·have:=yd List.length e
  rw [TX.cR,zj,TX.cR,TX.cR] at this
  have:=h.2
  have:=g.2
  omega
theorem AT.cut {m:Nat} {t:Str} (h:AT m t) (l u:Option Int):AT m (Txt.slice t l u):=by
 refine .of (λc n=>?_) (zY (Txt.slice_le t l u) h.2)
 unfold Txt.slice at n
 split at n
 ·exact h.mem c n
 ·rw [List.toList_toArray] at n
  obtain ⟨i,_,e⟩:=List.mem_filterMap.mp n
  refine h.mem c ?_
  rw [<-Array.getElem?_toList] at e
  exact yn e
theorem AT.sign {c:Nat} (h:c<128):AT 1 ⟨#[c]⟩:=.of (λx n=>by simp at n;omega) (zx 1)
def TL (L:List D):Prop:=∀d∈L,∃t,d=.str t/\AT 3000 t
theorem TL.nil:TL []:=λd h=>absurd h yQ
theorem TL.cons {t:Str} {L:List D} (h:AT 3000 t) (g:TL L):TL (.str t::L):=λd hd=>by
 rcases zm.mp hd with rfl|hd
 ·exact ⟨t,rfl,h⟩
 ·exact g d hd
theorem TL.app {L M:List D} (h:TL L) (g:TL M):TL (L++M):=λd hd=>by
 rcases zK.mp hd with hd|hd
 ·exact h d hd
 ·exact g d hd
theorem TL.at {L:List D} (h:TL L) {g:Int} (z:0<=g) (B:g<L.length):∃t,gA L g=some (.str t)/\AT 3000 t:=by
 obtain ⟨k,rfl⟩:=yl z
 have n:k<L.length:=by omega
 obtain ⟨t,e,a⟩:=h L[k] (yg n)
 exact ⟨t,by rw [dF (zg n),e],a⟩
theorem Ua {t:Str} {m:Nat} (h:AT m t) {g:Int} (z:0<=g) (B:g<t.length):∃c,gA t.cps.toList g=some c/\c<128:=by
 obtain ⟨k,rfl⟩:=yl z
 have n:k<t.cps.toList.length:=by rw [TX.cR];omega
 exact ⟨t.cps.toList[k],dF (zg n),h.mem _ (yg n)⟩
theorem Vi (x:Array Nat):∀(k:Nat) (n:Array Nat),((List.replicate k x).foldl (·++·) n).size=n.size+k * x.size/\∀c∈((List.replicate k x).foldl (·++·) n).toList,c∈n.toList\/c∈x.toList
 | 0,n=>⟨by simp,λc z=>.inl z⟩
 | k+1,n=>by
  rw [zM,List.foldl_cons]
  obtain ⟨a,b⟩:=Vi x k (n++x)
  refine ⟨by rw [a,Array.size_append,Nat.succ_mul];omega,λc z=>?_⟩
  rcases b c z with h|h
  ·rw [Array.toList_append] at h
   exact zK.mp h
  ·exact .inr h
theorem AT.mul {m:Nat} {x:Str} (h:AT m x) (k:Nat):AT (m * k) (Txt.mul x (k:Int)):=by
 unfold Txt.mul
 by_cases z:(k:Int)<1
 ·rw [zo z]
  exact .of (λc n=>by cases n) (yu _)
 rw [zh z]
 by_cases y:((k:Int) == 1 || x.length == 0)=true
 ·rw [zo y]
  exact h.mono (Nat.le_mul_of_pos_right m (by omega))
 rw [zh y]
 obtain ⟨a,b⟩:=Vi x.cps k #[]
 rw [xj]
 refine .of (λc n=>?_) ?_
 ·rcases b c n with h1|h1
  ·cases h1
  ·exact h.mem c h1
 ·show ((List.replicate k x.cps).foldl (·++·) #[]).size<=m * k
  rw [a,Nat.mul_comm m k]
  have:=Nat.mul_le_mul_left k h.2
  have e:x.cps.size=x.length:=rfl
  simp only [zC,xB,Nat.zero_add,e]
  exact this
def oW (m:Int) (h:List D):Prop:=∃a f k:Int,h=[.int a,.int f,.int k]/\0<=k/\k<=m
theorem oW.mono {m n:Int} {h:List D} (d:oW m h) (l:m<=n):oW n h:=by
 obtain ⟨a,f,k,e,h1,h2⟩:=d
 exact ⟨a,f,k,e,h1,by omega⟩
def PX:fK:=λas R=>∃(h:List D) (m n:Int),as=[.bor h,.d (.int n)]/\oW m h/\m<=10 ^ 6/\0<n/\n<1073741824/\∀(g:Int) h',0<=g->g<n->oW (m+1) h'->R (.rd (.int g)) [.bor h',.d (.int n)]
theorem abS (T:Zs K mg cs):Ok P w base 1 T.bR PX:=by
 refine T.bR.F.gU Pb (λas R h=>?_) (λY A outer s H E C as R D U h=>?_)
 ·obtain ⟨_,_,_,rfl,_⟩:=h;rfl
 have O:=U.units
 obtain ⟨h,m,n,rfl,⟨a,f,k,rfl,k0,k1⟩,Z,J,n1,q⟩:=h
 refine ⟨_,(bf (bA (gF D O (qx D (qv 0)) qi) (bf (aD (i:=2) Pb.nd rfl lc (u9 (qx D (qv 0)) (qv 1)))
    (bf (Mh (i:=0) (jm (qx D (qv 0)) (qv 1)) (pv 0) qi)
    (sr (qv 2)))) aQ)
    (bf (Mh (i:=0) (dz (qx D (qv 0)) qi) (pv 0) qi)
    (bf (aD (i:=3) Pb.nd rfl lc (qy (u9 (qx D (qv 0)) qi) (dz (qy (qx D (qv 0)) (qx D (qv 0))) qi)))
    (bf (aD (i:=3) Pb.nd rfl lc (u9 (dz (dz (qv 3) (qx D (qv 0))) qi) qi))
    (bf (aD (i:=3) Pb.nd rfl lc (u9 (qy (qv 3) (qv 3)) qi))
    (sr (u9 (jm (u9 (qy (qv 3) qi) qi) qi) (qv 1)))))))),?_⟩
 refine ak λI B=>?_
 simp only [Hg]
 refine eX (λc=>?_) (λc=>B _ ?_)
 ·refine ak λI B=>?_
  simp only [R]
  refine ⟨J,B _ ?_⟩
  refine ak λI B=>?_
  simp only [R]
  refine ⟨J,.inl (by omega),0,by unfold Bf;simp,B _ ?_⟩
  simp only [Hh]
  exact q _ _ (yT _ (by omega)) (yz _ J) ⟨_,_,_,rfl,k0,by omega⟩
 refine ak λI B=>?_
 simp only [R]
 refine ⟨2,by unfold Bf;simp,B _ ?_⟩
 refine ak λI B=>?_
 simp only [R]
 have e0:=yT a (show (2147483647:Int)≠0 by decide)
 have e1:=yz a (show (0:Int)<2147483647 by decide)
 generalize a % 2147483647=x at *
 refine ⟨.inl ⟨by omega,by omega⟩,.inl ⟨by omega,by omega⟩,B _ ?_⟩
 refine ak λI B=>?_
 simp only [R]
 refine B _ ?_
 have f0:=yT (x * ((k+1) * (k+1)+48271)+(k+1)+7) (show (2147483629:Int)≠0 by decide)
 have f1:=yz (x * ((k+1) * (k+1)+48271)+(k+1)+7) (show (0:Int)<2147483629 by decide)
 generalize (x * ((k+1) * (k+1)+48271)+(k+1)+7) % 2147483629=y at *
 refine ak λI B=>?_
 simp only [R]
 refine ⟨.inl ⟨by omega,by omega⟩,B _ ?_⟩
 have g0:=yT (y * y) (show (2147483587:Int)≠0 by decide)
 have g1:=yz (y * y) (show (0:Int)<2147483587 by decide)
 generalize (y * y) % 2147483587=z at *
 simp only [Q]
 refine ⟨J,?_⟩
 exact q _ _ (yT _ (by omega)) (yz _ J) ⟨_,_,_,rfl,by omega,by omega⟩
def S_Y:fK:=λas R=>∃c:Int,as=[.d (.int c),.d (.int 8)]/\∀h,oW 8 h->R (.ro h) as
theorem afo (T:Zs K mg cs):Ok P w base 1 T.mW S_Y:=by
 refine T.mW.F.gU aeE (λas R h=>?_) (λz A outer s H E C as R D n h=>?_)
 ·obtain ⟨_,rfl,_⟩:=h;rfl
 have B:=n.units
 obtain ⟨c,rfl,q⟩:=h
 refine ⟨_,(bf (bA (Lp (qv 0) (Gu qi qi)) (aH (bU (bN (a3 (cH (qv 0) (Gu qi qi)) qi (qv 1))))) aQ)
    (aH (bU (bN (a3 (qv 0) qi (qv 1)))))),?_⟩;simp only [Q,and_assoc]
 refine eX (λc=>?_) (λc=>?_)
 ·exact q _ ⟨_,_,_,rfl,by decide,by decide⟩
 ·exact q _ ⟨_,_,_,rfl,by decide,by decide⟩
def S_k:fK:=λas R=>∃(h:List D) (m:Int),as=[.bor h]/\oW m h/\m<=2000/\∀(t:Str) h',AT 3000 t->oW (m+2) h'->R (.rd (.str t)) [.bor h']
theorem afp (T:Zs K mg cs):Ok P w base 2 T.cJ S_k:=by
 have B:=abS P w base T
 refine T.cJ.F.gU Tn (λas R h=>?_) (λcdv A outer s H E C as R J U h=>?_)
 ·obtain ⟨_,_,rfl,_⟩:=h;rfl
 have hu:=U.units
 obtain ⟨h,m,rfl,hd,m6,q⟩:=h
 refine ⟨_,(@bf _ _ _ _ _ _ (@aD _ _ _ _ _ 1 _ _ Tn.nd rfl lc (@aq _ _ _ _ (@bN _ _ _ _ _ (@aS _ _ _ _ _ _ _ (@aS _ _ _ _ _ _ _ (@aS _ _ _ _ _ _ _ (@aS _ _ _ _ _ _ _ (@aS _ _ _ _ _ _ _ (@aS _ _ _ _ _ _ _ (@aS _ _ _ _ _ _ _ (@aS _ _ _ _ _ _ _ (@aS _ _ _ _ _ _ _ (@aS _ _ _ _ _ _ _ (@aS _ _ _ _ _ _ _ (@aS _ _ _ _ _ _ _ e_ rfl) rfl) rfl) rfl) rfl) rfl) rfl) rfl) rfl) rfl) rfl) rfl))) (by rfl) (by first|exact .inl rfl|exact .inr rfl|assumption))
    (bf (aD (i:=1) Tn.nd rfl lc (aq (Gz (qv 1) (aq (bN (aF (cM qs (mj qs qi)) (a3 (cM (cM qs (mj qs qi)) qs) (cM qs (mj qs qi)) (cM (cM qs (mj qs qi)) qs))))))))
    (@bf _ _ _ _ _ _ (@aD _ _ _ _ _ 1 _ _ Tn.nd rfl lc (@aq _ _ _ _ (@Gz _ _ _ _ _ _ _ (@qw _ _ _ _ (@pv _ 1 _ _ (by rfl) (by first|exact Or.inl rfl|exact Or.inr (Or.inl rfl)|exact Or.inr (Or.inr rfl)) (by decide) (by decide))) (@aq _ _ _ _ (@bN _ _ _ _ _ (@aF _ _ _ _ _ _ (@mj _ _ _ _ _ _ _ (@dY _ _ _ _ _ dm (λ_=>.str _)) (@dY _ _ _ _ _ jj (λ_=>.int _))) (@aF _ _ _ _ _ _ (@mj _ _ _ _ _ _ _ (@dY _ _ _ _ _ dm (λ_=>.str _)) (@dY _ _ _ _ _ jj (λ_=>.int _))) (@aF _ _ _ _ _ _ (@dY _ _ _ _ _ dm (λ_=>.str _)) (@aF _ _ _ _ _ _ (@dY _ _ _ _ _ dm (λ_=>.str _)) (@aF _ _ _ _ _ _ (@dY _ _ _ _ _ dm (λ_=>.str _)) (@aF _ _ _ _ _ _ (@dY _ _ _ _ _ dm (λ_=>.str _)) (@aF _ _ _ _ _ _ (@dY _ _ _ _ _ dm (λ_=>.str _)) (@aF _ _ _ _ _ _ (@dY _ _ _ _ _ dm (λ_=>.str _)) (@aF _ _ _ _ _ _ (@dY _ _ _ _ _ dm (λ_=>.str _)) (@aF _ _ _ _ _ _ (@dY _ _ _ _ _ dm (λ_=>.str _)) (@aF _ _ _ _ _ _ (@mj _ _ _ _ _ _ _ (@dY _ _ _ _ _ dm (λ_=>.str _)) (@dY _ _ _ _ _ jj (λ_=>.int _))) e_ (by rfl)) (by rfl)) (by rfl)) (by rfl)) (by rfl)) (by rfl)) (by rfl)) (by rfl)) (by rfl)) (by rfl)) (by rfl)))))) (by rfl) (by first|exact .inl rfl|exact .inr rfl|assumption))
    (sr (By J (qv 1) (aq (aj J T.bR B U.m (a2 (qv 0) (By J (aq (bN (a2 qi qi))) (aq (aj J T.bR B U.m (a2 (qv 0) qi))) (λ_ _=>rfl))))) (λ_ _=>rfl)))))),?_⟩
 refine dU (λp=>∃L:List D,TL L/\L.length=12/\p=[some (.bor h),some (.d (.lst L))]) (λk z=>?_) ?_
 ·simp only [Hg]
  refine z _ ⟨_,?_,rfl,rfl⟩
  repeat' (first|exact TL.nil|refine TL.cons (AT.uF (by decide)) ?_)
 rintro p ⟨L,n,I,rfl⟩
 refine dU (λp=>∃L:List D,TL L/\L.length=16/\p=[some (.bor h),some (.d (.lst L))]) (λk z=>?_) ?_
 ·simp only [R]
  refine ⟨by unfold MulOk;decide,by decide,by unfold MulOk;decide,by decide,by decide,by unfold MulOk;decide,by decide,by unfold MulOk;decide,by decide,by decide,by omega,z _ ⟨_,n.app ?_,by rw [zj,I];rfl,rfl⟩⟩
  repeat' (first|exact TL.nil|refine TL.cons (AT.uF (by decide)) ?_)
 rintro p ⟨L,n,I,rfl⟩
 refine dU (λp=>∃L:List D,TL L/\L.length=27/\p=[some (.bor h),some (.d (.lst L))]) (λk z=>?_) ?_
 ·simp only [R]
  have a7:AT 3000 (Txt.mul (Str.ofString "7") 2900):=(AT.mul (AT.uF (m:=1) (by decide)) 2900).mono (by decide)
  refine ⟨by unfold MulOk;decide,by unfold MulOk;decide,by unfold MulOk;decide,by omega,?_⟩
  generalize Txt.mul (Str.ofString "7") 2900=z7 at a7 ⊢
  refine z _ ⟨_,n.app ?_,by rw [zj,I];rfl,rfl⟩
  iterate 10 refine TL.cons (AT.uF (by decide)) ?_
  exact TL.cons a7 TL.nil
 rintro p ⟨L,n,I,rfl⟩
 simp only [Q,PX]
 refine ⟨_,hd,by omega,λg h1 g0 g1 Z=>?_⟩
 have O:∃x:Int,gA [D.int 8,D.int 27] g=some (.int x)/\0<x/\x<=27:=by
  have:g=0\/g=1:=by omega
  rcases this with rfl|rfl
  ·exact ⟨8,rfl,by decide,by decide⟩
  ·exact ⟨27,rfl,by decide,by decide⟩
 obtain ⟨x,ex,x0,x1⟩:=O
 refine ⟨_,ex,_,x,rfl,Z,by omega,x0,by omega,λg' h2 g0' g1' Y=>?_⟩
 obtain ⟨t,et,at'⟩:=n.at g0' (by omega)
 exact ⟨_,et,q t h2 at' (Y.mono (by omega))⟩
def S_c:fK:=λas R=>∃c:Int,as=[.d (.int c)]/\∀t:Str,AT 15000 t->R (.rd (.str t)) as
theorem afq (T:Zs K mg cs):Ok P w base 3 T.fW S_c:=by
 have G_Y:=afo P w base T
 have I:=abS P w base T
 have G_k:=afp P w base T
 refine T.fW.F.gU lH (λas R h=>?_) (λcdv A outer s H E C as R B U h=>?_)
 ·obtain ⟨_,rfl,_⟩:=h;rfl
 have hu:=U.units
 obtain ⟨c,rfl,q⟩:=h
 refine ⟨_,(bf (iG (i:=1) lH.nd rfl lc (aj B T.mW G_Y U.m (a2 (qv 0) qi)))
    (bf (aD (i:=2) lH.nd rfl lc (aq (aj B T.bR I U.m (a2 (qv 1) qi))))
    (@bf _ _ _ _ _ _ (@aD _ _ _ _ _ 3 _ _ lH.nd rfl lc (@aq _ _ _ _ (@bN _ _ _ _ _ (@aS _ _ _ _ _ _ _ (@aS _ _ _ _ _ _ _ (@aS _ _ _ _ _ _ _ (@aS _ _ _ _ _ _ _ (@aS _ _ _ _ _ _ _ (@aS _ _ _ _ _ _ _ (@aS _ _ _ _ _ _ _ (@aS _ _ _ _ _ _ _ (@aS _ _ _ _ _ _ _ (@aS _ _ _ _ _ _ _ (@aS _ _ _ _ _ _ _ e_ rfl) rfl) rfl) rfl) rfl) rfl) rfl) rfl) rfl) rfl) rfl))) (by rfl) (by first|exact .inl rfl|exact .inr rfl|assumption))
    (bf (bA (uK (qv 2) qi) (aH (aD (i:=4) lH.nd rfl lc (cM (cM (By B (qv 3) (qv 2) (λ_ _=>rfl)) qs) (aq (aj B T.cJ G_k U.m (a1 (qv 1))))))) (aH (bA (gF B hu (qv 2) qi) (bf (aD (i:=4) lH.nd rfl lc (cM (cM qs (aq (aj B T.cJ G_k U.m (a1 (qv 1))))) qs))
    (aH (aD (i:=4) lH.nd rfl lc (cM (qv 4) (By B (aq (bN (aF qs (aF qs (aF qs (aF qs (a3 qs qs qs))))))) (aq (aj B T.bR I U.m (a2 (qv 1) qi))) (λ_ _=>rfl)))))) (aH (bA (gF B hu (qv 2) qi) (bf (aD (i:=4) lH.nd rfl lc (cM qs (By B (aq (bN (aF qs (aF qs (a3 qs qs qs))))) (aq (aj B T.bR I U.m (a2 (qv 1) qi))) (λ_ _=>rfl))))
    (aH (aD (i:=4) lH.nd rfl lc (cM (cM (qv 4) qs) (aq (aj B T.cJ G_k U.m (a1 (qv 1)))))))) (@bf _ _ _ _ _ _ (@aD _ _ _ _ _ 5 _ _ lH.nd rfl lc (@aq _ _ _ _ (@bN _ _ _ _ _ (@aS _ _ _ _ _ _ _ (@aS _ _ _ _ _ _ _ (@aS _ _ _ _ _ _ _ (@aS _ _ _ _ _ _ _ (@aS _ _ _ _ _ _ _ (@aS _ _ _ _ _ _ _ (@aS _ _ _ _ _ _ _ (@aS _ _ _ _ _ _ _ (@aS _ _ _ _ _ _ _ (@aS _ _ _ _ _ _ _ e_ rfl) rfl) rfl) rfl) rfl) rfl) rfl) rfl) rfl) rfl))) (by rfl) (by first|exact .inl rfl|exact .inr rfl|assumption))
    (bf (aD (i:=5) lH.nd rfl lc (aq (Gz (qv 5) (aq (bN (aF qs (aF qs (a3 qs qs qs))))))))
    (aH (aD (i:=4) lH.nd rfl lc (By B (qv 5) (aq (aj B T.bR I U.m (a2 (qv 1) qi))) (λ_ _=>rfl)))))))))))
    (bf (bA (gF B hu (aq (aj B T.bR I U.m (a2 (qv 1) qi))) qi) (bf (aD (i:=6) lH.nd rfl lc (aq (aj B T.bR I U.m (a2 (qv 1) (dz (rF rfl T.fL (a1 (qv 4))) qi)))))
    (bf (aD (i:=7) lH.nd rfl lc (MN qs (aq (aj B T.bR I U.m (a2 (qv 1) qi))) (λ_ _=>rfl)))
    (bf (aD (i:=2) lH.nd rfl lc (aq (aj B T.bR I U.m (a2 (qv 1) qi))))
    (bf (bA (gF B hu (qv 2) qi) (sr (cM (G6 (qv 4) wG (pH (qv 6))) (G6 (qv 4) (pH (dz (qv 6) qi)) wG))) aQ)
    (aH (aD (i:=4) lH.nd rfl lc (By B (aq (bN (a2 (cM (cM (G6 (qv 4) wG (pH (qv 6))) (qv 7)) (G6 (qv 4) (pH (qv 6)) wG)) (m_upper (qv 4))))) (cH (qv 2) qi) (λ_ _=>rfl)))))))) aQ)
    (sr (qv 4))))))),?_⟩
 refine ak λkk z=>?_
 simp only [R,S_Y]
 refine λh hd=>z _ ?_
 refine ak λkk z=>?_
 simp only [R,PX]
 refine ⟨_,hd,by omega,λw h1 w0 w1 Z=>z _ ?_⟩
 refine dU (λp=>∃L:List D,TL L/\L.length=11/\p=[some (.d (.int c)),some (.own h1),some (.d (.int w)),some (.d (.lst L)),none,none,none,none]) (λk hk=>?_) ?_
 ·simp only [Hg]
  refine hk _ ⟨_,?_,rfl,rfl⟩
  repeat' (first|exact TL.nil|refine TL.cons (AT.uF (by decide)) ?_)
 rintro p ⟨L,tL,lL,rfl⟩
 refine dU (λp=>∃(h2:List D) (t:Str) (o:Option D),AT 7000 t/\oW 20 h2/\p=[some (.d (.int c)),some (.own h2),some (.d (.int w)),some (.d (.lst L)),some (.d (.str t)),Option.map Sl.d o,none,none]) (λk hk=>?_) ?_
 ·simp only [R,S_k,PX]
  have s1:AT 1 (Str.ofString " "):=AT.uF (by decide)
  have l1:=s1.2
  refine eX (λc1=>?_) (λc1=>eX (λc2=>?_) (λc2=>eX (λc3=>?_) (λc3=>?_)))
  ·obtain ⟨t,et,n⟩:=tL.at w0 (by omega)
   have l2:=n.2
   have l3:=(n.cat s1).2
   refine ⟨_,et,t,rfl,by omega,_,Z,by omega,λu h' Y hd'=>?_⟩
   have l4:=Y.2
   exact ⟨by omega,hk _ ⟨h',_,none,((n.cat s1).cat Y).mono (by decide),hd'.mono (by decide),rfl⟩⟩
  ·have w5:AT 5 (Str.ofString "ways "):=AT.uF (by decide)
   have l5:=w5.2
   refine ak λkk z=>?_
   simp only [R,S_k]
   refine ⟨_,Z,by omega,λu h' Y hd'=>?_⟩
   have l4:=Y.2
   have l6:=(w5.cat Y).2
   refine ⟨by omega,by omega,z _ ?_⟩
   have hw:=(w5.cat Y).cat s1
   generalize Str.ofString "ways "++u++Str.ofString " "=x at hw ⊢
   have tS:TL [D.str (Str.ofString "0"),D.str (Str.ofString "1"),D.str (Str.ofString "2"),D.str (Str.ofString "3"),D.str (Str.ofString "12"),D.str (Str.ofString "13"),D.str (Str.ofString "x")]:=by
    repeat' (first|exact TL.nil|refine TL.cons (AT.uF (by decide)) ?_)
   simp only [Q,PX]
   refine ⟨_,hd',by omega,λg h2 g0 g1 O=>?_⟩
   obtain ⟨t,et,n⟩:=tS.at g0 (by exact g1)
   have l7:=hw.2
   have l8:=n.2
   exact ⟨_,et,t,rfl,by omega,hk _ ⟨h2,_,none,(hw.cat n).mono (by decide),O.mono (by decide),rfl⟩⟩
  ·have w7:AT 7 (Str.ofString "way 12 "):=AT.uF (by decide)
   have l7:=w7.2
   have tS:TL [D.str (Str.ofString "0"),D.str (Str.ofString "1"),D.str (Str.ofString "2"),D.str (Str.ofString "3"),D.str (Str.ofString "13")]:=by
    repeat' (first|exact TL.nil|refine TL.cons (AT.uF (by decide)) ?_)
   refine ak λkk z=>?_
   simp only [R,PX]
   refine ⟨_,Z,by omega,λg h2 g0 g1 O=>?_⟩
   obtain ⟨t,et,n⟩:=tS.at g0 (by exact g1)
   have l8:=n.2
   refine ⟨_,et,t,rfl,by omega,z _ ?_⟩
   have hw:=w7.cat n
   generalize Str.ofString "way 12 "++t=x at hw ⊢
   have l9:=hw.2
   have l3:=(hw.cat s1).2
   simp only [Q,S_k]
   refine ⟨by omega,_,O,by omega,λu h' Y hd'=>?_⟩
   have l4:=Y.2
   exact ⟨by omega,hk _ ⟨h',_,none,((hw.cat s1).cat Y).mono (by decide),hd'.mono (by decide),rfl⟩⟩
  ·refine dU (λp=>∃L':List D,TL L'/\L'.length=10/\p=[some (.d (.int c)),some (.own h1),some (.d (.int w)),some (.d (.lst L)),none,some (.d (.lst L')),none,none]) (λk' hk'=>?_) ?_
   ·simp only [R]
    refine hk' _ ⟨_,?_,rfl,rfl⟩
    repeat' (first|exact TL.nil|refine TL.cons (AT.uF (by decide)) ?_)
   rintro p ⟨L',tL',lL',rfl⟩
   refine dU (λp=>∃L':List D,TL L'/\L'.length=15/\p=[some (.d (.int c)),some (.own h1),some (.d (.int w)),some (.d (.lst L)),none,some (.d (.lst L')),none,none]) (λk' hk'=>?_) ?_
   ·simp only [R]
    refine ⟨by omega,hk' _ ⟨_,tL'.app ?_,by rw [zj,lL'];rfl,rfl⟩⟩
    repeat' (first|exact TL.nil|refine TL.cons (AT.uF (by decide)) ?_)
   rintro p ⟨L',tL',lL',rfl⟩
   simp only [Q,PX]
   refine ⟨_,Z,by omega,λg h2 g0 g1 O=>?_⟩
   obtain ⟨t,et,n⟩:=tL'.at g0 (by omega)
   exact ⟨_,et,hk _ ⟨h2,t,some _,n.mono (by decide),O.mono (by decide),rfl⟩⟩
 rintro p ⟨h2,t,o,ta,O,rfl⟩
 refine ak λkk z=>?_
 simp only [R,PX]
 have tl:=ta.2
 refine ⟨_,O,by omega,λg h3 g0 g1 hd3=>eX (λc1=>?_) (λc1=>z _ ?_)⟩
 ·refine ak λk1 J=>?_
  simp only [R,PX]
  refine ⟨by omega,_,hd3,by omega,by omega,by omega,λn h4 a0 a1 hd4=>J _ ?_⟩
  obtain ⟨sg,es,as',ls⟩:∃o:Str,(Str.ofString " 01aZ-_\n")=o/\AT 8 o/\o.length=8:=⟨_,rfl,AT.uF (by decide),by decide⟩
  refine ak λk1 J=>?_
  simp only [R,PX]
  rw [es]
  refine ⟨_,hd4,by omega,λk h5 k0 k1' hd5=>⟨by omega,?_⟩⟩
  obtain ⟨cc,ec,c1'⟩:=Ua as' k0 (by omega)
  refine ⟨cc,ec,J _ ?_⟩
  refine ak λk1 J=>?_
  simp only [R,PX]
  refine ⟨_,hd5,by omega,λv h6 v0 v1 hd6=>J _ ?_⟩
  have cu:=λl u=>ta.cut l u
  refine ak λk1 J=>?_
  simp only [R]
  refine eX (λw2=>?_) (λw2=>J _ ?_)
  ·have a1:=(cu none (some n)).cat (cu (some (n+1)) none)
   have l1:=(cu none (some n)).2
   have l2:=(cu (some (n+1)) none).2
   exact ⟨by omega,by omega,by omega,q _ (a1.mono (by decide))⟩
  have a1:=((cu none (some n)).cat (AT.sign c1')).cat (cu (some n) none)
  have l1:=(cu none (some n)).2
  have l2:=(cu (some n) none).2
  have l3:=((cu none (some n)).cat (AT.sign c1')).2
  have up:=vD ta.1
  have u1:AT 7000 (Txt.upper t):=⟨up.1,by rw [up.2];exact tl⟩
  simp only [Q]
  refine ⟨by omega,by show _+1<=100000;omega,by omega,by omega,ta.1,by omega,?_⟩
  have v2:v=1\/v=2:=by omega
  rcases v2 with rfl|rfl
  ·refine ⟨_,rfl,z _ ?_⟩
   simp only [Q]
   exact q _ (a1.mono (by decide))
  ·refine ⟨_,rfl,z _ ?_⟩
   simp only [Q]
   exact q _ (u1.mono (by decide))
 ·simp only [Q]
  exact q _ (ta.mono (by decide))
def Vj (w:Str) (m:Int):D:=match TX.num w m with|some n=>.int n|none=>.non
theorem uB {w:Str} {m:Int} (h:TX.wr w=false):Vj w m=.non:=by unfold Vj TX.num;rw [h];rfl
theorem Di {w:Str} (h:¬1<=w.length\/¬w.length<=41\/(w.length≠1/\w.cps.toList.head? = some 48)\/∃c∈w.cps.toList,¬(48<=c/\c<=57)):TX.wr w=false:=by
 cases z:TX.wr w with
 | false=>rfl
 | true=>
  exfalso
  unfold TX.wr at z
  simp only [yy,Bool.or_eq_true,yw,zP,xv] at z
  rcases h with h|h|⟨h,h'⟩|⟨c,h1,h2⟩
  ·exact h z.1.1.1
  ·exact h z.1.1.2
  ·rcases z.1.2 with y|y
   ·exact h y
   ·rw [h'] at y;simp at y
  ·exact h2 (z.2 c h1)
def S_m:fK:=λas R=>∃(w:Str) (m:Int),as=[.d (.str w),.d (.int m)]/\AT 50000 w/\R (.rd (Vj w m)) as
theorem abT (T:Zs K mg cs):Ok P w base 1 T.cF S_m:=by
 refine T.cF.F.gU aeG (λas R h=>?_) (λcdv A outer s H E C as R hK hr h=>?_)
 ·obtain ⟨_,_,rfl,_⟩:=h;rfl
 have hu:=hr.units
 obtain ⟨w,m,rfl,⟨wa,wl⟩,q⟩:=h
 have ef:("0123456789":Str)=TX.CJ:=rfl
 have ll:=TX.cR w
 refine ⟨_,(bf (bA (PW.pt (w_or (eN (nO jK jK qi (rF rfl T.fL (a1 (qv 0))) qi)) (jB (PW.pt (w_and (gF hK hu (MN (qv 0) qi (λ_ _=>rfl)) qs) (Ef (Lw hK hu (qv 0) qs))))))) (sr (dY jk (λ_=>.non))) aQ)
    (bf (bA (PW.pt (w_or (eN (eZ (Yc hK rfl rfl T.aa8 (a1 (aq (pN (N:=["figure","word","most"]) (k:=1) (aU.of (show gQ (aa s_m) ["word","most"] _ ["figure","word","most"] 1 from ⟨by rfl,by decide,by decide,by rfl,by decide,by decide,by decide,by decide⟩)) rfl (Uy (qv 0)) (λZ s H fp=>(d7 (i:=0) (by decide) (show List.Nodup (["figure","word","most"]:List Str) by decide) rfl (Or.inl rfl) (Or.inr rfl))) (λZ s H fp=>jn) (λZ s H fp=>(aaS (qv 0) qs)))))))) (jB (Ec (nW rfl T.um (a1 (qv 0))) (qv 1))))) (sr (dY jk (λ_=>.non))) aQ)
    (sr (nW rfl T.um (a1 (qv 0)))))),?_⟩
 refine ak λkk B=>?_
 cases I:w.cps.toList with
 | nil=>
  rw [I] at ll
  have l0:w.length=0:=by simpa using ll.symm
  simp only [R,l0]
  rw [uB (Di (.inl (by omega)))] at q
  exact q
 | cons c r=>
  have at0:gA w.cps.toList 0=some c:=by rw [I];have h:gA (c::r) ((0:Nat):Int)=some c:=dF rfl;exact h
  have lr:w.length=r.length+1:=by rw [<-ll,I];rfl
  simp only [R,at0]
  have go:w.length=1\/c≠48->w.length<=41->kk [some (.d (.str w)),some (.d (.int m))]:=λhc l41=>by
   refine B _ ?_
   refine ak λkk B=>?_
   simp only [S]
   refine comp_map (n:=w.cps.size) (item:=λi=>.str ⟨#[w.cps.getD i 0]⟩) (p1:=_) (λQ h=>by simp only [Hh];exact ⟨wa,h⟩) (by show w.length<=100000;omega) (λi=>.bl (L2.Xq ⟨#[w.cps.getD i 0]⟩ TX.CJ)) (λi R hi h=>?_) ?_
   ·simp only [Q,ef]
    exact h
   simp only [Q]
   refine ⟨(List.range w.cps.size).map λi=>L2.Xq ⟨#[w.cps.getD i 0]⟩ TX.CJ,by rw [List.map_map];rfl,?_⟩
   refine eX (λJ=>?_) (λJ=>?_)
   ·have bad:∃c∈w.cps.toList,¬(48<=c/\c<=57):=by
     apply Classical.byContradiction
     intro hn
     refine absurd J (Bool.not_eq_false _ |>.mpr ?_)
     rw [zP]
     intro x hx
     obtain ⟨j,D,rfl⟩:=zV.mp hx
     rw [List.mem_range] at D
     have hm:=(FW wa D).2
     by_cases y:48<=w.cps.getD j 0/\w.cps.getD j 0<=57
     ·exact TX.O1 _ y
     ·exact absurd ⟨_,hm,y⟩ hn
    rw [uB (Di (.inr (.inr (.inr bad))))] at q
    exact q
   ·have J:=(Bool.not_eq_false _).mp J
    have dig:∀c∈w.cps.toList,48<=c/\c<=57:=λc hc=>by
     obtain ⟨j,D,ej⟩:=yJ hc
     rw [yI] at D
     have g:w.cps.getD j 0=c:=by rw [Array.getD_eq_getD_getElem?,Array.getElem?_eq_getElem D];simpa using ej
     by_cases y:48<=c/\c<=57
     ·exact y
     ·exfalso
      have h1:=(FW wa D).1
      rw [g] at h1
      have h2:=TX.Hx c h1 y
      rw [zP] at J
      have h3:=J _ (zV.mpr ⟨j,List.mem_range.mpr D,rfl⟩)
      rw [g,h2] at h3
      cases h3
    have ok:TX.wr w=true:=by
     unfold TX.wr
     simp only [yy,Bool.or_eq_true,yw,zP,xv]
     exact ⟨⟨⟨by omega,l41⟩,hc.imp id λz=>by rw [I];simpa using z⟩,dig⟩
    obtain ⟨n,n0,n1,rfl⟩:=TX.O2 ok
    have Y:=TX.dN n0 (xa n1 (by decide))
    have e:Vj (TX.tx n) m=if n<=m then .int n else .non:=by
     unfold Vj
     rw [TX.ug n0 n1]
     by_cases z:n<=m
     ·rw [zo z,zo z]
     ·rw [zh z,zh z]
    rw [e] at q
    refine ⟨n,Y.rd,by have:=Y.len;omega,eX (λz=>?_) (λz=>B _ ?_)⟩
    ·rw [zh (by omega)] at q;exact q
    ·rw [zo (by omega)] at q
     simp only [Q]
     exact ⟨n,Y.rd,by have:=Y.len;omega,q⟩
  refine ⟨by omega,eX (λc1=>eX (λc2=>⟨by omega,eX (λU=>eX (λc5=>go (.inl ?_) (by omega)) (λc5=>?_)) (λU=>go (.inr ?_) (by omega))⟩) (λc2=>?_)) (λc1=>?_)⟩
  ·rw [c5];decide
  ·have O:c=48:=by
    by_cases y:c=48
    ·exact y
    ·have:=PJ y
     rw [show (Str.ofString "0")=("0":Str) from rfl] at U
     rw [this] at U
     exact U.elim
   have nl:w.length≠1:=λz=>c5 (TX.qG (by
    have:r=[]:=yO.mp (by omega)
    rw [I,this,O];exact TY.symm))
   rw [uB (Di (.inr (.inr (.inl ⟨nl,by rw [I,O];rfl⟩))))] at q
   exact q
  ·exact λy=>U (TX.qG (by rw [show (Str.ofString "0")=("0":Str) from rfl,TY,y]))
  ·rw [uB (Di (.inr (.inl (by omega))))] at q
   exact q
  ·rw [uB (Di (.inl (by omega)))] at q
   exact q
def iT (b:Int) (f:Str) (ns:List Int):Str:=if f=("base":Str) then (if 2<=ns.getD 0 0/\ns.getD 0 0<=36 then "" else "NoBase") else if f=("place":Str) then (if M.dh b (ns.getD 0 0)=true then "" else "NoMirror") else if f=("way":Str) then (if ns.getD 2 0<M.cg true (M.bH b (ns.getD 0 0)).reverse (ns.getD 1 0).toNat (ns.getD 0 0) then "" else "NoPlace") else ""
def Y8 (b:Int):Option (Str × List Int)->Str
 | none=>"NoCommand"
 | some r=>iT b r.1 r.2
def due (b:Int) (w:Str):Str:=Y8 b (TX.rowOf w)
theorem jy {f x:Str} {v bs:List Int} {r:List (Str × List Int)} (h:List.lookup f ((x,v)::r)=some bs):(f=x/\v=bs)\/List.lookup f r=some bs:=by
 rw [zT] at h
 by_cases z:f=x
 ·subst z;simp at h;exact .inl ⟨rfl,h⟩
 ·have:(f == x)=false:=by simpa using z
  rw [this] at h;exact .inr h
theorem Dk.kp {C:Pc} {H:Hp} {cl x:Addr} {b:Int} (h:Dk cl C.H0 x b) (h0:C.bs=[]) (kp:Kp C H):Dk cl H x b:=by
 obtain ⟨⟨dx,e⟩,r⟩:=h
 exact ⟨⟨dx,kp _ _ e λq n=>by rw [h0] at n;cases n⟩,r⟩
theorem m5 (b:Int):List.lookup (Str.ofString "say") [((Str.ofString "base"),V.int b)]=none:=by
 rw [zT,show ((Str.ofString "say") == (Str.ofString "base"))=false by decide];rfl
theorem Y9 {n:Int} (D:0<=n) (n1:n<=10 ^ 40):TX.rowOf (Str.ofString "is "++TX.tx n)=some (("is":Str),[n]):=by
 have e:Str.ofString "is "++TX.tx n=Str.join TX.qH [("is":Str),TX.tx n]:=by
  show _=("is":Str)++TX.qH++TX.tx n
  rw [show ("is":Str)++TX.qH=Str.ofString "is " by decide]
 have I:=TX.dN D (xr n1 (by decide))
 unfold TX.rowOf
 rw [e,TX.split1 (by simp) (λw B=>by
  rcases zm.mp B with rfl|B
  ·decide
  ·rw [zr.mp B]
   intro z;have:=I.dig 32 z;omega)]
 have J:TX.BT.lookup ("is":Str)=some [10 ^ 40]:=by decide
 simp only [J,yB]
 unfold TX.nums TX.nums
 rw [TX.ug D (xr n1 (by decide)),zo n1]
 rfl
theorem Ub {h:Str} {bd:Int} (n:TX.BT.lookup h=some [bd]):(Jk [Sum.inr (Str.ofString "at"),Sum.inr (Str.ofString "two"),Sum.inr (Str.ofString "fewest")] [D.int 100000000000000000000,D.int 1000000,D.int 1000000] (Sum.inr h)).getD (D.int 10000000000000000000000000000000000000000)=D.int bd:=by
 unfold TX.BT at n
 iterate 11 (rcases jy n with ⟨rfl,e⟩|n;· cases e;kernel_rfl)
 rcases jy n with ⟨rfl,e⟩|n
 ·cases (e)
 rcases jy n with ⟨rfl,e⟩|n
 ·cases (e)
 cases n
def S_E (cl:Addr):JK:=λH as R=>∃(x:Addr) (b z:Int) (h w:Str),as=[.d (.atom (.ref x)),.d (.str h),.d (.str w)]/\Dk cl H x b/\TX.BT.lookup h=some [z]/\z<=10 ^ 40/\AT 40000 w/\R (.rd (.str (Y8 b ((TX.num w z).map λn=>(h,[n]))))) as
theorem aft (T:Zs K mg cs):OkH P w base 26 T.iR (S_E T.cl):=by
 have G_m:=abT P w base T
 have J:=uA P w base T
 refine T.iR.F.Xc YF (λH as R h=>?_) (λcdv A outer s H E C as R O JC hbs hr h=>?_)
 ·obtain ⟨_,_,_,_,_,rfl,_⟩:=h;rfl
 have hu:=hr.units
 obtain ⟨x,b,bd,D,w,rfl,JD,I,hbd,⟨wa,wl⟩,q⟩:=h
 have h0:C.bs=[]:=pR (ds:=[.atom (.ref x),.str D,.str w]) hbs
 subst JC
 have Z:=JD
 obtain ⟨⟨dx,hx⟩,b0,b1⟩:=Z
 refine ⟨_,(@bf _ _ _ _ _ _ (@aD _ _ _ _ _ 3 _ _ YF.nd rfl lc (@Ym _ _ _ _ _ _ _ _ _ _ _ _ _ _ _ _ _ _ dm (xF ⟨by decide,by decide,by decide⟩) dm (xF ⟨by decide,by decide,by decide⟩) dm (xF ⟨by decide,by decide,by decide⟩) (λ_=>.int _) (λ_=>.int _) (λ_=>.int _) (by kernel_rfl)) (by rfl) (by first|exact .inl rfl|exact .inr rfl|assumption))
    (bf (aD (i:=4) YF.nd rfl lc (aq (aj O T.cF G_m hr.m (a2 (qv 2) (X7 O hu (qv 3) (a2 (qv 1) (Gu qi qi)))))))
    (bf (bA (Bw (qv 4)) (sr qs) aQ)
    (bf (bA (gF O hu (qv 1) qs) (sr (nP (nO jK jK qi (qv 4) qi) qs qs)) aQ)
    (bf (bA (gF O hu (qv 1) qs) (sr (nP (gF O hu (aq (rK O (qv 0) T.cls T.say J hr.m T.Jx (a1 (cM qs (qv 2))))) qs) qs qs)) aQ)
    (sr qs)))))),?_⟩
 refine ak λkk B=>?_
 simp only [Hg]
 refine B _ ?_
 refine ak λkk B=>?_
 simp only [R,S_m]
 refine ⟨⟨_,_,rfl⟩,_,_,rfl,bd,Ub I,⟨wa,by omega⟩,B _ ?_⟩
 refine ak λkk B=>?_
 unfold Vj
 cases hn:TX.num w bd with
 | none=>
  rw [hn] at q
  simp only [R,Ru]
  exact q
 | some n=>
  rw [hn] at q
  have q:R (.rd (.str (iT b D [n]))) [.d (.atom (.ref x)),.d (.str D),.d (.str w)]:=q
  obtain ⟨n0,n1,n2,rfl⟩:=TX.dW hn
  simp only [R,Ru]
  refine B _ ?_
  refine ak λkk B=>?_
  simp only [R]
  by_cases Y:D=("base":Str)
  ·unfold iT at q
   rw [zo Y] at q
   rw [zo Y]
   by_cases y:2<=n/\n<=36
   ·rw [zo (show 2<=[n].getD 0 0/\[n].getD 0 0<=36 from y)] at q
    rw [zo y.1,zo y.2];exact q
   ·rw [zh (show ¬(2<=[n].getD 0 0/\[n].getD 0 0<=36) from y)] at q
    refine eX (λc1=>eX (λc2=>absurd ⟨c1,c2⟩ y) (λc2=>q)) (λc1=>q)
  rw [zh Y]
  refine B _ ?_
  refine ak λkk B=>?_
  simp only [R]
  by_cases U:D=("place":Str)
  ·rw [zo U]
   have e:iT b D [n]=if M.dh b n=true then ("":Str) else "NoMirror":=by unfold iT;rw [zh Y,zo U];rfl
   rw [e] at q
   have tl:=(TX.dN n0 (xa n1 (by decide))).len
   have n40:n<=10 ^ 40:=by
    rw [U] at I
    have:TX.BT.lookup ("place":Str)=some [10 ^ 40]:=by decide
    rw [this] at I
    cases I
    exact n2
   have i3:AT 3 (Str.ofString "is "):=⟨by decide,by decide⟩
   have l3:=i3.2
   simp only [Q,vM,m5]
   refine ⟨dx,_,hx,h0,m5 b,by omega,λH kp=>⟨b,JD.kp h0 kp,(i3.cat (n:=50) ⟨wa,tl⟩).mono (by decide),_,_,Y9 n0 n40,⟨by decide,λz=>absurd z (by decide),λz=>absurd z (by decide)⟩,λt ht=>?_⟩⟩
   have et:t=if M.dh b n=true then ("yes":Str) else "no":=ht.is_ rfl
   by_cases y:M.dh b n=true
   ·rw [zo y] at q et
    rw [zo et];exact q
   ·rw [zh y] at q et
    rw [zh (by rw [et];decide)];exact q
  rw [zh U]
  refine B _ ?_
  have e:iT b D [n]="":=by
   unfold iT
   rw [zh Y,zh U,zh (λz3=>by
    rw [z3] at I
    have:TX.BT.lookup ("way":Str)=some [500,12,10 ^ 40]:=by decide
    rw [this] at I;cases (I))]
  rw [e] at q
  simp only [Hh]
  exact q
def Zm:List Str:=[Str.ofString "base",Str.ofString "figures",Str.ofString "is",Str.ofString "below",Str.ofString "above",Str.ofString "count",Str.ofString "at",Str.ofString "place",Str.ofString "few",Str.ofString "two",Str.ofString "fewest"]
theorem P0 {g:Str}:Zm.any (· == g)=true ↔ ∃z:Int,TX.BT.lookup g=some [z]/\z<=10 ^ 40:=by
 constructor
 ·intro h
  rw [List.any_eq_true] at h
  obtain ⟨y,B,e⟩:=h
  have e:=eq_of_beq e
  subst e
  have all:∀y∈Zm,∃z:Int,TX.BT.lookup y=some [z]/\z<=10 ^ 40:=by
   unfold Zm
   simp only [List.forall_mem_cons]
   exact ⟨⟨10 ^ 40,by kernel_rfl,by decide⟩,⟨10 ^ 40,by kernel_rfl,by decide⟩,⟨10 ^ 40,by kernel_rfl,by decide⟩,⟨10 ^ 40,by kernel_rfl,by decide⟩,⟨10 ^ 40,by kernel_rfl,by decide⟩,⟨10 ^ 40,by kernel_rfl,by decide⟩,⟨10 ^ 20,by kernel_rfl,by decide⟩,⟨10 ^ 40,by kernel_rfl,by decide⟩,⟨10 ^ 40,by kernel_rfl,by decide⟩,⟨10 ^ 6,by kernel_rfl,by decide⟩,⟨10 ^ 6,by kernel_rfl,by decide⟩,λ_ h=>absurd h yQ⟩
  exact all y B
 ·rintro ⟨z,n,_⟩
  unfold TX.BT at n
  iterate 11 (rcases jy n with ⟨rfl,e⟩|n;· decide)
  rcases jy n with ⟨rfl,e⟩|n
  ·cases (e)
  rcases jy n with ⟨rfl,e⟩|n
  ·cases (e)
  cases n
theorem P_ {g:Str} (h1:¬∃bd:Int,TX.BT.lookup g=some [bd]/\bd<=10 ^ 40):TX.BT.lookup g=none/\g≠("ways":Str)/\g≠("way":Str)\/g=("ways":Str)\/g=("way":Str):=by
 by_cases B:g=("ways":Str)
 ·exact .inr (.inl B)
 by_cases z:g=("way":Str)
 ·exact .inr (.inr z)
 refine .inl ⟨?_,B,z⟩
 cases n:TX.BT.lookup g with
 | none=>rfl
 | some bs=>
  exfalso
  have D:=n
  unfold TX.BT at n
  iterate 11 (rcases jy n with ⟨rfl,e⟩|n;· (subst e;exact h1 ⟨_,D,by decide⟩))
  rcases jy n with ⟨rfl,e⟩|n
  ·exact B rfl
  rcases jy n with ⟨rfl,e⟩|n
  ·exact z rfl
  cases n
theorem Qa {n:Int} {m:Nat} (D:0<=n) (n1:n<=500) (U:m<=12):TX.rowOf (Str.ofString "ways "++TX.tx n++Str.ofString " "++TX.tx ((m:Nat):Int))=some (("ways":Str),[n,((m:Nat):Int)]):=by
 have e:Str.ofString "ways "++TX.tx n++Str.ofString " "++TX.tx ((m:Nat):Int)=Str.join TX.qH [("ways":Str),TX.tx n,TX.tx ((m:Nat):Int)]:=by
  refine TX.qG ?_
  rw [TX.xZ,TX.xZ,TX.ou,TX.ou,TX.ou,show (Str.ofString "ways ").cps.toList=(Str.ofString "ways").cps.toList++TX.qH.cps.toList by decide,Af]
  simp only [xw]
  rfl
 have I:=TX.dN D (by omega:n<10 ^ 50)
 have J:=TX.dN (n:=((m:Nat):Int)) (by omega) (by omega)
 unfold TX.rowOf
 rw [e,TX.split1 (by simp) (λw B=>by
  rcases zm.mp B with rfl|B
  ·decide
  rcases zm.mp B with rfl|B
  ·intro z;have:=I.dig 32 z;omega
  ·rw [zr.mp B]
   intro z;have:=J.dig 32 z;omega)]
 have O:TX.BT.lookup ("ways":Str)=some [500,12]:=by decide
 simp only [O,yB]
 rw [TX.nums,TX.nums,TX.nums,TX.ug D (by omega),TX.ug (by omega) (by omega),zo n1,zo (by omega)]
 rfl
def S_T (cl:Addr):JK:=λH as R=>∃(x:Addr) (b:Int) (w:Str),as=[.d (.atom (.ref x)),.d (.str w)]/\Dk cl H x b/\AT 20000 w/\R (.rd (.str (due b w))) as
theorem afu (T:Zs K mg cs):OkH P w base 27 T.qg (S_T T.cl):=by
 have G_m:=abT P w base T
 have G_E:=aft P w base T
 have Qd:=uA P w base T
 refine T.qg.F.Xc Tp (λH as R h=>?_) (λcdv A outer s H E C as R I JC hbs hr h=>?_)
 ·obtain ⟨_,_,_,rfl,_⟩:=h;rfl
 have hu:=hr.units
 obtain ⟨x,b,w,rfl,JD,⟨wa,wl⟩,q⟩:=h
 have h0:C.bs=[]:=pR (ds:=[.atom (.ref x),.str w]) hbs
 subst JC
 have F_:=JD
 obtain ⟨⟨dx,hx⟩,b0,b1⟩:=F_
 have wm:=TX.Ft w
 have Y:∀x∈Txt.split w TX.qH,x.cps.all (·<128)=true/\x.length<=w.length:=λx hx=>TX.O3 wa hx
 unfold due TX.rowOf at q
 refine ⟨_,(bf (aD (i:=2) Tp.nd rfl lc (aq (wR I (qv 1) (a1 qs))))
    (@bf _ _ _ _ _ _ (@aD _ _ _ _ _ 3 _ _ Tp.nd rfl lc (@aq _ _ _ _ (@bN _ _ _ _ _ (@aS _ _ _ _ _ _ _ (@aS _ _ _ _ _ _ _ (@aS _ _ _ _ _ _ _ (@aS _ _ _ _ _ _ _ (@aS _ _ _ _ _ _ _ (@aS _ _ _ _ _ _ _ (@aS _ _ _ _ _ _ _ (@aS _ _ _ _ _ _ _ (@aS _ _ _ _ _ _ _ (@aS _ _ _ _ _ _ _ (@aS _ _ _ _ _ _ _ e_ rfl) rfl) rfl) rfl) rfl) rfl) rfl) rfl) rfl) rfl) rfl))) (by rfl) (by first|exact .inl rfl|exact .inr rfl|assumption))
    (bf (bA (PW.pt (w_and (aaY (qx I (qv 2)) (qv 3)) (Ef (gF I hu (gm I rfl T.fL (a1 (qv 2))) qi)))) (aH (bU (fB I T.iR G_E hr.m (a3 (qv 0) (qx I (qv 2)) (qx I (qv 2)))))) aQ)
    (bf (bA (PW.pt (w_or (Oa (qx I (qv 2)) (vf (a2 qs qs))) (jB (Lw I hu (gm I rfl T.fL (a1 (qv 2))) (dz qi (WY rfl T.um (a1 (Ls I hu (qx I (qv 2)) qs)))))))) (sr qs) aQ)
    (bf (bA (PW.pt (w_or (Bw (aq (aj I T.cF G_m hr.m (a2 (qx I (qv 2)) qi)))) (jB (Bw (aq (aj I T.cF G_m hr.m (a2 (qx I (qv 2)) qi))))))) (sr qs) aQ)
    (bf (bA (gF I hu (qx I (qv 2)) qs) (sr qs) aQ)
    (bf (aD (i:=4) Tp.nd rfl lc (aq (aj I T.cF G_m hr.m (a2 (qx I (qv 2)) (Gu qi qi)))))
    (bf (bA (Bw (qv 4)) (sr qs) aQ)
    (sr (nP (uK (qv 4) (nW rfl T.um (a1 (aq (rK I (qv 0) T.cls T.say Qd hr.m T.Jx (a1 (cM (cM (cM qs (qx I (qv 2))) qs) (qx I (qv 2))))))))) qs qs)))))))))),?_⟩
 refine ak λkk B=>?_
 simp only [R,Af]
 refine ⟨by omega,by omega,B _ ?_⟩
 cases hs:Txt.split w TX.qH with
 | nil=>exact absurd hs (uz w)
 | cons g os=>
  rw [hs] at q wm Y
  simp only at q
  simp only [zG] at wm
  have Z:gA (D.str g::List.map D.str os) 0=some (.str g):=by have h:gA (D.str g::List.map D.str os) ((0:Nat):Int)=some (.str g):=dF rfl;exact h
  refine dU (λp=>p=[some (.d (.atom (.ref x))),some (.d (.str w)),some (.d (.lst (.str g::os.map D.str))),some (.d (.lst (Zm.map D.str))),none]) (λk hk=>?_) ?_
  ·simp only [Hg]
   exact hk _ rfl
  rintro p rfl
  refine ak λkk B=>?_
  simp only [R,Z]
  refine ⟨Zm,rfl,?_⟩
  have rest:(R (.rd (.str "NoCommand")) [.d (.atom (.ref x)),.d (.str w)]/\g≠("ways":Str)/\g≠("way":Str))\/g=("ways":Str)\/g=("way":Str)->kk [some (.d (.atom (.ref x))),some (.d (.str w)),some (.d (.lst (.str g::os.map D.str))),some (.d (.lst (Zm.map D.str))),none]:=λhc=>by
   refine B _ ?_
   refine ak λkk B=>?_
   simp only [R,Z]
   refine ⟨[("ways":Str),"way"],rfl,?_⟩
   rcases hc with ⟨q',n1,n2⟩|hc
   ·rw [zo (by simp [ym.mpr (Ne.symm n1),ym.mpr (Ne.symm n2)])]
    exact q'
   have hin:([Str.ofString "ways",Str.ofString "way"].any λx=>x == g)=true:=by
    rcases hc with rfl|rfl<;>decide
   rw [hin,zh (by decide),z9]
   obtain ⟨bs,O,hlen,afv⟩:∃bs,TX.BT.lookup g=some bs/\((bs.length:Nat):Int)=2+(if g=Str.ofString "way" then 1 else 0)/\∃r,bs=500::12::r:=by
    rcases hc with rfl|rfl
    ·exact ⟨[500,12],by decide,by rw [zh (by decide)];rfl,[],rfl⟩
    ·exact ⟨[500,12,10 ^ 40],by decide,by rw [zo rfl];rfl,[10 ^ 40],rfl⟩
   rw [O] at q
   simp only [yB] at q
   refine eX (λJ=>B _ ?_) (λJ=>?_)
   rotate_left
   ·rw [show TX.nums os bs=none by
     cases h:TX.nums os bs with
     | none=>rfl
     | some ns=>have:=(TX.gY h).1;omega] at q
    exact q
   obtain ⟨br,rfl⟩:=afv
   simp only [zG] at hlen
   match os,Y,q,wm,Z,J with
   | [],_,_,_,_,J=>exfalso;simp at J;omega
   | [_],_,_,_,_,J=>exfalso;simp at J;omega
   | p1::p2::r,Y,q,wm,Z,J=>
    have a1:gA (D.str g::List.map D.str (p1::p2::r)) 1=some (.str p1):=by have h:gA (D.str g::List.map D.str (p1::p2::r)) ((1:Nat):Int)=some (.str p1):=dF rfl;exact h
    have a2:gA (D.str g::List.map D.str (p1::p2::r)) 2=some (.str p2):=by have h:gA (D.str g::List.map D.str (p1::p2::r)) ((2:Nat):Int)=some (.str p2):=dF rfl;exact h
    obtain ⟨x1,x2⟩:=Y p1 (by simp)
    obtain ⟨y1,y2⟩:=Y p2 (by simp)
    rw [yb,yb] at Z a1 a2 ⊢
    refine ak λkk B=>?_
    simp only [R,Z,a1,a2,S_m]
    refine ⟨⟨x1,by omega⟩,?_⟩
    have un:TX.nums (p1::p2::r) (500::12::br)=(TX.num p1 500).bind λn=>((TX.num p2 12).bind λk=>(TX.nums r br).map (k::·)).map (n::·):=by
     rw [TX.nums,TX.nums]
    rw [un] at q
    unfold Vj
    cases h1:TX.num p1 500 with
    | none=>rw [h1] at q;exact q
    | some n=>
     refine ⟨⟨y1,by omega⟩,?_⟩
     cases h2:TX.num p2 12 with
     | none=>rw [h1,h2] at q;exact q
     | some k=>
      rw [h1,h2] at q
      simp only [yB] at q
      obtain ⟨n0,_,n1,e1⟩:=TX.dW h1
      obtain ⟨k0,_,k1,e2⟩:=TX.dW h2
      refine B _ ?_
      refine ak λkk B=>?_
      simp only [R,Z]
      rcases hc with rfl|rfl
      ·rw [show TX.BT.lookup (Str.ofString "ways")=some [500,12] by decide] at O
       cases O
       rw [zo rfl]
       match r,q,J with
       | [],q,_=>exact q
       | _::_,_,J=>exfalso;rw [zh (by decide)] at J;simp at J;omega
      rw [zh (by decide)]
      refine B _ ?_
      rw [show TX.BT.lookup (Str.ofString "way")=some [500,12,10 ^ 40] by decide] at O
      cases O
      match r,Y,q,wm,Z,a1,a2,J with
      | [],_,_,_,_,_,_,J=>exfalso;simp at J
      | _::_::_,_,_,_,_,_,_,J=>exfalso;simp at J;omega
      | [p3],Y,q,wm,Z,a1,a2,J=>
       have a3:gA (D.str (Str.ofString "way")::D.str p1::D.str p2::List.map D.str [p3]) 3=some (.str p3):=by have h:gA (D.str (Str.ofString "way")::D.str p1::D.str p2::List.map D.str [p3]) ((3:Nat):Int)=some (.str p3):=dF rfl;exact h
       obtain ⟨z1,z2⟩:=Y p3 (by simp)
       refine ak λkk B=>?_
       simp only [R,a3,S_m]
       refine ⟨⟨z1,by omega⟩,B _ ?_⟩
       have e40:(10000000000000000000000000000000000000000:Int)=10 ^ 40:=by decide
       rw [e40]
       have u3:TX.nums [p3] [10 ^ 40]=(TX.num p3 (10 ^ 40)).map λn=>[n]:=by
        rw [TX.nums,TX.nums]
        cases TX.num p3 (10 ^ 40)<;>rfl
       rw [u3] at q
       unfold Vj
       refine ak λkk B=>?_
       cases h3:TX.num p3 (10 ^ 40) with
       | none=>
        rw [h3] at q
        simp only [R,Ru]
        exact q
       | some pl=>
        rw [h3] at q
        have q:R (.rd (.str (iT b (Str.ofString "way") [n,k,pl]))) [.d (.atom (.ref x)),.d (.str w)]:=q
        obtain ⟨m,rfl⟩:=yl k0
        subst e1 e2
        have m12:m<=12:=by omega
        obtain ⟨c0,c2⟩:=Vg b0 b1 n0 n1 m12
        have nz:=TX.dN c0 c2
        have ed:iT b (Str.ofString "way") [n,((m:Nat):Int),pl]=if pl<M.cg true (M.bH b n).reverse m n then ("":Str) else "NoPlace":=by
         unfold iT
         rw [zh (by decide),zh (by decide),zo rfl]
         simp
        rw [ed] at q
        simp only [R,Ru]
        refine B _ ?_
        have a1':AT 5 (Str.ofString "ways "):=AT.uF (by decide)
        have a2':AT 1 (Str.ofString " "):=AT.uF (by decide)
        have c3:=a1'.cat (n:=50) ⟨x1,(TX.dN n0 (by omega)).len⟩
        have c4:=c3.cat a2'
        have c5:=c4.cat (n:=50) ⟨y1,(TX.dN (n:=((m:Nat):Int)) (by omega) (by omega)).len⟩
        have d1:=a1'.2
        have d2:=a2'.2
        have d3:=c3.2
        have d4:=c4.2
        simp only [Q,a1,a2,vM]
        refine ⟨dx,_,hx,h0,m5 b,by have:=(TX.dN n0 (by omega)).len;omega,by omega,by have:=(TX.dN (n:=((m:Nat):Int)) (by omega) (by omega)).len;omega,λH kp=>⟨b,JD.kp h0 kp,c5.mono (by decide),_,_,Qa n0 n1 m12,⟨by decide,λz=>absurd z (by decide),λz=>absurd z (by decide)⟩,λt ht=>?_⟩⟩
        have et:t=TX.tx (M.cg true (M.bH b n).reverse m n):=by have:=ht.ways rfl;simpa using this
        subst et
        refine ⟨_,nz.rd,by have:=nz.len;omega,eX (λz=>?_) (λz=>?_)⟩
        ·rw [zo z] at q;exact q
        ·rw [zh z] at q;exact q
  refine eX (λJ=>?_) (λJ=>rest ?_)
  ·obtain ⟨bd,O,hbd⟩:=P0.mp J
   have ne:g≠("ways":Str)/\g≠("way":Str):=by
    refine ⟨λz=>?_,λz=>?_⟩
    ·rw [z,show TX.BT.lookup ("ways":Str)=some [500,12] by decide] at O;cases (O)
    ·rw [z,show TX.BT.lookup ("way":Str)=some [500,12,10 ^ 40] by decide] at O;cases (O)
   rw [O] at q
   simp only [yB] at q
   rw [z9]
   refine eX (λc2=>?_) (λc2=>rest (.inl ⟨?_,ne⟩))
   ·obtain ⟨U,rfl⟩:∃U,os=[U]:=List.length_eq_one_iff.mp (by omega)
    have a1:gA (D.str g::List.map D.str [U]) 1=some (.str U):=by have h:gA (D.str g::List.map D.str [U]) ((1:Nat):Int)=some (.str U):=dF rfl;exact h
    obtain ⟨x1,x2⟩:=Y U (by simp)
    refine ⟨_,a1,λH kp=>⟨x,b,bd,g,U,rfl,JD.kp h0 kp,O,hbd,⟨x1,by omega⟩,?_⟩⟩
    have e:Option.map (λx=>(g,x)) (TX.nums [U] [bd])=(TX.num U bd).map λn=>(g,[n]):=by
     unfold TX.nums TX.nums
     cases TX.num U bd<;>rfl
    rw [e] at q
    exact q
   ·have e:TX.nums os [bd]=none:=by
     cases h:TX.nums os [bd] with
     | none=>rfl
     | some ns=>have:=(TX.gY h).1;simp at this;omega
    rw [e] at q
    exact q
  ·rcases P_ (λz=>J (P0.mpr z)) with ⟨h1,h2⟩|h1
   ·rw [h1] at q
    exact .inl ⟨q,h2⟩
   ·exact .inr h1
inductive Named (cs:XA):Addr->Str->Prop
 | command:Named cs cs.aG "NoCommand"
 | base:Named cs cs.bG "NoBase"
 | mirror:Named cs cs.aR "NoMirror"
 | place:Named cs cs.bh "NoPlace"
theorem Ag (a b c d:Bool):Ep (.lst [.bl a,.bl b,.bl c,.bl d]):=⟨by simp [L2.plain,L2.iH],by simp [toP,toPs,PyData.canLay0,PyData.canLayAll0],by simp [toP,toPs,PyData.depth,PyData.depthAll]⟩
theorem uC:Ep (.lst []):=⟨by simp [L2.plain,L2.iH],by simp [toP,toPs,PyData.canLay0,PyData.canLayAll0],by simp [toP,toPs,PyData.depth,PyData.depthAll]⟩
theorem Y_ (a:D) (l:List D):wN (.lst (a::l)) (.lst [])=false:=by unfold wN;simp [toP,toPs,PyData.eqv,PyData.eqvAll]
structure Kinds (K:PySem.W.Frag) (cs:XA) (Cl:Addr) (k1 k2 k3 k4:Bool):Prop where
 sub:PySem.W.subIn K (.ref Cl) (.ref cs.eO)=some true
 xf:XF K Cl
 h1:PySem.W.kitOne K (.ref Cl) (.ref cs.aG)=some k1
 h2:PySem.W.kitOne K (.ref Cl) (.ref cs.bG)=some k2
 h3:PySem.W.kitOne K (.ref Cl) (.ref cs.aR)=some k3
 h4:PySem.W.kitOne K (.ref Cl) (.ref cs.bh)=some k4
 oth:PySem.W.kitAny K (.ref Cl) ([cs.dX,cs.iK,cs.lO].map Value.ref)=some false
 ve:PySem.W.kitOne K (.ref Cl) (.type "ValueError")=some true
theorem kinds_of (T:Zs K mg cs) {z:Addr} {n:Str} (h:Named cs z n):Kinds K cs z (decide ((Str.ofString "NoCommand")=n)) (decide ((Str.ofString "NoBase")=n)) (decide ((Str.ofString "NoMirror")=n)) (decide ((Str.ofString "NoPlace")=n)):=by
 cases h
 ·exact ⟨T.CT,T.CQ,T.jE,T.mH,T.j4,T.lD,by simp [PySem.W.kitAny,T.j6,T.mJ,T.oE],T.CV⟩
 ·exact ⟨T.O6,T.O5,T.mK,T.qQ,T.oF,T.pZ,by simp [PySem.W.kitAny,T.oG,T.qR,T.uq],T.O7⟩
 ·exact ⟨T.Fy,T.Fx,T.j7,T.oH,T.lE,T.mL,by simp [PySem.W.kitAny,T.lF,T.oJ,T.p8],T.Fz⟩
 ·exact ⟨T.Jt,T.Js,T.lG,T.p_,T.mO,T.oK,by simp [PySem.W.kitAny,T.mQ,T.qb,T.qT],T.Ju⟩
def S_f (cs:XA) (cl:Addr):JK:=λH as R=>∃(x:Addr) (b:Int) (d:D) (n:Str),as=[.d (.atom (.ref x)),.d d,.d (.str n)]/\Dk cl H x b/\((∃(w f:Str) (ns:List Int),d=.str w/\AT 50000 w/\TX.rowOf w=some (f,ns)/\Good b f ns/\n="")\/(∃z,Bad cs b d z/\Named cs z n))/\R (.rd (.bl true)) as
theorem abW (T:Zs K mg cs):OkH P w base 26 T.dM (S_f cs T.cl):=by
 have Qd:=uA P w base T
 refine T.dM.F.Xc mR (λH as R h=>?_) (λcdv A outer s H E C as R B JC hbs hr h=>?_)
 ·obtain ⟨_,_,_,_,rfl,_⟩:=h;rfl
 have hu:=hr.units
 have Y:=T8 P w base T
 obtain ⟨x,b,d,U,rfl,JD,hc,q⟩:=h
 have h0:C.bs=[]:=pR (ds:=[.atom (.ref x),d,.str U]) hbs
 subst JC
 have F_:=JD
 obtain ⟨⟨dx,hx⟩,b0,b1⟩:=F_
 refine ⟨_,(bf (aD (i:=3) mR.nd rfl lc (dY jk (λ_=>.non)))
    (bf (iG (i:=4) mR.nd rfl lc (bN e_))
    (bf (aD (i:=5) mR.nd rfl lc (dY jz (λ_=>.bl _)))
    (bf (aaA (i:=6) (th:=uM (GJ 4 (Ry (cC (Cd C.K (.ref cs.aG) (.ref cs.aG) (cC (qN 6) (cC (qC (.atom (.ref cs.aG))) lB))) (cC (Cd C.K (.ref cs.bG) (.ref cs.bG) (cC (qN 6) (cC (qC (.atom (.ref cs.bG))) lB))) (cC (Cd C.K (.ref cs.aR) (.ref cs.aR) (cC (qN 6) (cC (qC (.atom (.ref cs.aR))) lB))) lB))))) (uM (GF (RD 4 (cC (Cd C.K (.ref cs.bh) (.ref cs.bh) (cC (qN 6) (cC (qC (.atom (.ref cs.bh))) lB))) lB))) (Ma 5 (Rw (G3 C.K (cC (qN 6) (cC (Rz (cC (qC (.atom (.ref cs.dX))) (cC (qC (.atom (.ref cs.iK))) (cC (qC (.atom (.ref cs.lO))) lB)))) lB))) (Gy (Cd C.K (.ty "ValueError") (.type "ValueError") (cC (qN 6) (cC (qC (.atom (.ty "ValueError"))) lB)))))))) T.lQ mR.nd rfl rfl (λF0 pins E XE lk=>(aH (aD (i:=3) mR.nd rfl lc (aq (aaE (Ob B (qv 0) T.cls T.say Qd hr.m T.Jx (a1 (qv 1))) (Oc B (qv 0) T.cls T.say Y hr.m T.Jx lk (a1 (qv 1)))))))) (λF0 pins A=>(bf (iG (i:=4) mR.nd rfl lc (bN (a3 (tU (y:=.ref cs.aG) (c:=.ref cs.aG) B (λ_ h=>h) rfl T.bC (a2 (qv 6) (dY (cB (v:=.ref cs.aG) rfl T.eU.m rfl) (λ_=>.atom _)))) (tU (y:=.ref cs.bG) (c:=.ref cs.bG) B (λ_ h=>h) rfl T.bC (a2 (qv 6) (dY (cB (v:=.ref cs.bG) rfl T.CP.m rfl) (λ_=>.atom _)))) (tU (y:=.ref cs.aR) (c:=.ref cs.aR) B (λ_ h=>h) rfl T.bC (aF (qv 6) (a1 (dY (cB (v:=.ref cs.aR) rfl T.uo.m rfl) (λ_=>.atom _))))))))
    (bf (pJ (iY B (pv 4) (a1 (tU (y:=.ref cs.bh) (c:=.ref cs.bh) B (λ_ h=>h) rfl T.bC (a2 (qv 6) (dY (cB (v:=.ref cs.bh) rfl T.pY.m rfl) (λ_=>.atom _)))))))
    (aH (aD (i:=5) mR.nd rfl lc (Us (RX B rfl T.bC (a2 (qv 6) (vf (aF (dY (cB (v:=.ref cs.dX) rfl T.Fv.m rfl) (λ_=>.atom _)) (a2 (dY (cB (v:=.ref cs.iK) rfl T.O4.m rfl) (λ_=>.atom _)) (dY (cB (v:=.ref cs.lO) rfl T.Tc.m rfl) (λ_=>.atom _))))))) (u_ (Eg (tU (y:=.ty "ValueError") (c:=.type "ValueError") B (λ_ h=>h) rfl T.bC (a2 (qv 6) (dY (jl (v:=.ty "ValueError") rfl T.Ab (by kernel_rfl) rfl) (λ_=>.atom _)))))))))))))
    (bf (bA (Uv B hu (qv 4) (aq (bN e_))) (sr (wD (Ls B hu (qv 2) qs) (u_ (pI (T:="str") B (by first|exact .inl rfl|exact .inr (.inl rfl)|exact .inr (.inr (.inl rfl))|exact .inr (.inr (.inr (.inl rfl)))|exact .inr (.inr (.inr (.inr rfl)))) rfl T.bC (a2 (qv 3) (dY (jl (v:=.ty "str") rfl T.iB (by kernel_rfl) rfl) (λ_=>.atom _))))))) aQ)
    (bf (En (i:=7) mR.nd rfl lc (N:=["word","desk","words","due","answer","kinds","other","e","dues"]) (k:=1) (aU.of (show gQ (aa s_f) ["desk","words","due","answer","kinds","other","e","dues"] _ ["word","desk","words","due","answer","kinds","other","e","dues"] 1 from ⟨by rfl,by decide,by decide,by rfl,by decide,by decide,by decide,by decide⟩)) rfl (gn B (aq (bN (aF qs (a3 qs qs qs))))) (λZ s H fp=>(d7 (i:=0) (by decide) (show List.Nodup (["word","desk","words","due","answer","kinds","other","e","dues"]:List Str) by decide) rfl (Or.inl rfl) (Or.inr rfl))) (λZ s H fp=>jn) (λZ s H fp=>(Ls B hu (qv 0) (qv 3))))
    (sr (wD (Eg (qv 5)) (u_ (Mw B hu (qv 4) (qv 7))))))))))),?_⟩
 iterate 7 simp only [Ho]
 dsimp only
 rcases hc with ⟨w,f,ns,rfl,wa,hrow,hg,rfl⟩|⟨Cl,hb,hn⟩
 ·show _\/_
  refine .inl ?_
  simp only [Hh]
  refine ⟨_,_,_,rfl,hx,h0,m5 b,?_⟩
  simp only [Hh]
  intro H kp
  show Exists _
  refine ⟨x,b,w,f,ns,rfl,JD.kp h0 kp,wa,hrow,hg,λt ht=>?_⟩
  simp only [Hh]
  refine ⟨uC,uC,?_⟩
  simp only [Hh]
  refine Sy (λ_=>?_) (λz=>absurd rfl z)
  simp only [Hh]
  exact q
 ·obtain ⟨k1,k2,k3,k4,O⟩:∃k1 k2 k3 k4,Kinds K cs Cl k1 k2 k3 k4/\(D.lst [.bl k1,.bl k2,.bl k3,.bl k4])=.lst [.bl (decide ((Str.ofString "NoCommand")=U)),.bl (decide ((Str.ofString "NoBase")=U)),.bl (decide ((Str.ofString "NoMirror")=U)),.bl (decide ((Str.ofString "NoPlace")=U))]:=⟨_,_,_,_,kinds_of T hn,rfl⟩
  obtain ⟨O,ek⟩:=O
  refine ak λkk J=>?_
  simp only [R,vM,Vh]
  refine .inr ⟨dx,_,hx,h0,m5 b,Cl,λH kp=>⟨b,JD.kp h0 kp,hb⟩,O.sub,?_⟩
  refine ak λkk2 I=>?_
  simp only [R]
  rw [<-B]
  refine ⟨O.xf,k1,O.h1,O.xf,k2,O.h2,O.xf,k3,O.h3,I _ ?_⟩
  clear I kk2
  refine ak λkk2 I=>?_
  simp only [R]
  rw [<-B]
  refine ⟨O.xf,k4,O.h4,I _ ?_⟩
  clear I kk2
  simp only [R]
  rw [<-B]
  refine ⟨[cs.dX,cs.iK,cs.lO],rfl,O.xf,false,O.oth,?_⟩
  rw [zh (by decide)]
  refine ⟨O.xf,true,O.ve,J _ ?_⟩
  clear J kk
  refine ak λkk J=>?_
  simp only [R]
  refine ⟨Ag _ _ _ _,uC,?_⟩
  rw [Y_,zh (by decide)]
  refine J _ ?_
  clear J kk
  refine ak λkk J=>?_
  simp only [S]
  refine comp_map (n:=4) (item:=λi=>([D.str (Str.ofString "NoCommand"),D.str (Str.ofString "NoBase"),D.str (Str.ofString "NoMirror"),D.str (Str.ofString "NoPlace")]).getD i .non) (p1:=_) (λQ h=>by
   simp only [Hh]
   exact h) (by decide) (λi=>.bl (decide (([Str.ofString "NoCommand",Str.ofString "NoBase",Str.ofString "NoMirror",Str.ofString "NoPlace"]).getD i ("":Str)=U))) (λi R hi h=>?_) ?_
  ·match i,hi with
   | 0,_=>simp only [Q,List.getD_cons_zero,List.getD_cons_succ];exact h
   | 1,_=>simp only [Q,List.getD_cons_zero,List.getD_cons_succ];exact h
   | 2,_=>simp only [Q,List.getD_cons_zero,List.getD_cons_succ];exact h
   | 3,_=>simp only [Q,List.getD_cons_zero,List.getD_cons_succ];exact h
  simp only [Hh]
  refine J _ ?_
  simp only [Q]
  show Ep _/\Ep (.lst [.bl (decide ((Str.ofString "NoCommand")=U)),.bl (decide ((Str.ofString "NoBase")=U)),.bl (decide ((Str.ofString "NoMirror")=U)),.bl (decide ((Str.ofString "NoPlace")=U))])/\R (.rd (.bl (wN _ (.lst [.bl (decide ((Str.ofString "NoCommand")=U)),.bl (decide ((Str.ofString "NoBase")=U)),.bl (decide ((Str.ofString "NoMirror")=U)),.bl (decide ((Str.ofString "NoPlace")=U))])))) _
  rw [<-ek,pO (Ag _ _ _ _)]
  exact ⟨Ag _ _ _ _,Ag _ _ _ _,q⟩
def abX (cl:Addr):Ex:=λW ds R=>∃(x dx:Addr) (b n:Int) (w:Str),ds=[.atom (.ref x),.str w,.str ""]/\W x=some (.ins cl dx [("base",.int b)])/\AT 50000 w/\TX.rowOf w=some (("base":Str),[n])/\2<=n/\n<=36/\R (.bl true) (upd W x (.ins cl dx [("base",.int n)]))
theorem abY (T:Zs K mg cs):Zk P w base 26 T.dM (abX T.cl):=by
 have J:=uA P w base T
 refine T.dM.F.XR mR (λW ds R h=>?_) (λcdv A outer s H E C W ds R I Y h=>?_)
 ·obtain ⟨_,_,_,_,_,rfl,_⟩:=h;rfl
 have U:=Y.units
 have B:=T9 P w base T
 obtain ⟨x,dx,b,n,w,rfl,O,Z,D,n0,n1,q⟩:=h
 refine ⟨_,(aV (a_ (λW ok=>(aD (i:=3) mR.nd rfl lc (dY jk (λ_=>.non))))) (aV (a_ (λW ok=>(iG (i:=4) mR.nd rfl lc (bN e_)))) (aV (a_ (λW ok=>(aD (i:=5) mR.nd rfl lc (dY jz (λ_=>.bl _))))) (aV (aaX (i:=6) T.lQ mR.nd rfl rfl (λpins E=>(fj (tW (i:=3) mR.nd rfl lc (Ye (ds0:=[]) I (λW ok=>(qv 0)) T.cls T.say B Y.m T.Jx (λW ok=>(a1 (qv 1)))))))) (v_cut (a_ (λW ok=>(bA (Uv I U (qv 4) (aq (bN e_))) (sr (wD (Ls I U (qv 2) qs) (u_ (pI (T:="str") I (by first|exact .inl rfl|exact .inr (.inl rfl)|exact .inr (.inr (.inl rfl))|exact .inr (.inr (.inr (.inl rfl)))|exact .inr (.inr (.inr (.inr rfl)))) rfl T.bC (a2 (qv 3) (dY (jl (v:=.ty "str") rfl T.iB (by kernel_rfl) rfl) (λ_=>.atom _))))))) aQ)))))))),?_⟩
 simp only [Hh]
 refine ⟨_,_,_,rfl,O,m5 b,?_⟩
 simp only [Hh]
 show Exists _
 refine ⟨x,dx,b,n,w,rfl,O,Z,D,n0,n1,?_⟩
 simp only [Hh]
 refine ⟨uC,uC,?_⟩
 simp only [Hh]
 refine Sy (λ_=>?_) (λz=>absurd rfl z)
 simp only [Hh]
 exact q
structure oX (b:Int) (t1 t2 t3 t4:Str):Prop where
 h1:j9 b (Str.ofString "figures") [12345] t1
 h2:j9 b (Str.ofString "is") [121] t2
 h3:j9 b (Str.ofString "few") [100] t3
 h4:j9 b (Str.ofString "count") [99] t4
def S_v (cl:Addr):JK:=λH as R=>∃(x:Addr) (b:Int),as=[.d (.atom (.ref x))]/\Dk cl H x b/\∀t1 t2 z n,oX b t1 t2 z n->R (.ro [.str t1,.str t2,.str z,.str n]) as
theorem ab0 (T:Zs K mg cs):OkH P w base 26 T.eV (S_v T.cl):=by
 have O:=uA P w base T
 refine T.eV.F.Xc aeC (λH as R h=>?_) (λcdv A outer s H E C as R hK JC hbs hr h=>?_)
 ·obtain ⟨_,_,rfl,_⟩:=h;rfl
 have hu:=hr.units
 obtain ⟨x,b,rfl,JD,q⟩:=h
 have h0:C.bs=[]:=pR (ds:=[.atom (.ref x)]) hbs
 subst JC
 have F_:=JD
 obtain ⟨⟨dx,hx⟩,b0,b1⟩:=F_
 refine ⟨_,(aH (bU (pN (N:=["words","desk"]) (k:=1) (aU.of (show gQ (aa s_v) ["desk"] _ ["words","desk"] 1 from ⟨by rfl,by decide,by decide,by rfl,by decide,by decide,by decide,by decide⟩)) rfl (gn hK (aq (bN (aF qs (a3 qs qs qs))))) (λZ s H fp=>(d7 (i:=0) (by decide) (show List.Nodup (["words","desk"]:List Str) by decide) rfl (Or.inl rfl) (Or.inr rfl))) (λZ s H fp=>jn) (λZ s H fp=>(aq (rK hK (qv 1) T.cls T.say O hr.m T.Jx (a1 (qv 0)))))))),?_⟩
 have U:(C.sh 1).bs=[]:=by show C.bs.map _=[];rw [h0];rfl
 obtain ⟨Aw,B⟩:∃Aw:Nat->Str->Prop,Aw=λi t=>(i=0->j9 b (Str.ofString "figures") [12345] t)/\(i=1->j9 b (Str.ofString "is") [121] t)/\(i=2->j9 b (Str.ofString "few") [100] t)/\(i=3->j9 b (Str.ofString "count") [99] t):=⟨_,rfl⟩
 simp only [S]
 refine wM (n:=4) (item:=λi=>([D.str (Str.ofString "figures 12345"),D.str (Str.ofString "is 121"),D.str (Str.ofString "few 100"),D.str (Str.ofString "count 99")]).getD i .non) (p1:=[some (.d (.atom (.ref x)))]) (λQ h=>by
  simp only [Hh]
  exact h) (by decide) (λi ys p2=>∃(ts:List Str) (o:Option D),ys=ts.map D.str/\ts.length=i/\(∀j t,ts[j]? = some t->Aw j t)/\p2=[o.map Sl.d,some (.d (.atom (.ref x)))]) ⟨[],none,rfl,rfl,λj t h=>by simp at h,rfl⟩ (λi ys p2 h=>by
  obtain ⟨ts,o,rfl,e,_⟩:=h
  rw [z9,e];exact zx _) ?_ ?_
 ·rintro i ys p2 hi ⟨ts,o,rfl,el,J,rfl⟩
  refine ⟨by cases o<;>rfl,?_⟩
  show tE [some (.d _),some (.d (.atom (.ref x)))] _
  unfold tE
  simp only [if_true]
  have st:∀(w f:Str) (ns:List Int),AT 50000 w->TX.rowOf w=some (f,ns)->Good b f ns->(∀t,j9 b f ns t->Aw i t)->(qFz (tZ (C.sh 1) (vM T.cl) T.cl (Str.ofString "say") (qN 1) (cC (qN 0) lB))) [some (.d (.str w)),some (.d (.atom (.ref x)))] λe p5=>∃y,e=.fz y/\∃(I:List Str) (o:Option D),ts.map D.str++[y]=I.map D.str/\I.length=i+1/\(∀j t,I[j]? = some t->Aw j t)/\p5=[o.map Sl.d,some (.d (.atom (.ref x)))]:=λw f ns wa Y hg hA=>by
   simp only [Q,vM]
   refine ⟨dx,_,hx,U,m5 b,λH kp=>⟨b,Dk.kp (C:=C.sh 1) JD U kp,wa,f,ns,Y,hg,λt ht=>?_⟩⟩
   refine ⟨ts++[t],by rw [yf];rfl,by rw [zj,el];rfl,λj t' h=>?_,some (.str w),rfl⟩
   rcases Nat.lt_or_ge j ts.length with hj|hj
   ·rw [zJ hj] at h;exact J j t' h
   ·rw [zS hj] at h
    obtain ⟨z,rfl⟩:j=ts.length/\t=t':=by
     match hz:j - ts.length,h with
     | 0,h=>exact ⟨by omega,by simpa using h⟩
    rw [z,el];exact hA t ht
  match i,hi with
  | 0,_=>exact st _ (Str.ofString "figures") [12345] (AT.mono (AT.uF (m:=50) (by decide)) (by decide)) (by decide) ⟨by decide,λz=>absurd z (by decide),λz=>absurd z (by decide)⟩ (λt h=>by rw [B];exact ⟨λ_=>h,λz=>absurd z (by decide),λz=>absurd z (by decide),λz=>absurd z (by decide)⟩)
  | 1,_=>exact st _ (Str.ofString "is") [121] (AT.mono (AT.uF (m:=50) (by decide)) (by decide)) (by decide) ⟨by decide,λz=>absurd z (by decide),λz=>absurd z (by decide)⟩ (λt h=>by rw [B];exact ⟨λz=>absurd z (by decide),λ_=>h,λz=>absurd z (by decide),λz=>absurd z (by decide)⟩)
  | 2,_=>exact st _ (Str.ofString "few") [100] (AT.mono (AT.uF (m:=50) (by decide)) (by decide)) (by decide) ⟨by decide,λz=>absurd z (by decide),λz=>absurd z (by decide)⟩ (λt h=>by rw [B];exact ⟨λz=>absurd z (by decide),λz=>absurd z (by decide),λ_=>h,λz=>absurd z (by decide)⟩)
  | 3,_=>exact st _ (Str.ofString "count") [99] (AT.mono (AT.uF (m:=50) (by decide)) (by decide)) (by decide) ⟨by decide,λz=>absurd z (by decide),λz=>absurd z (by decide)⟩ (λt h=>by rw [B];exact ⟨λz=>absurd z (by decide),λz=>absurd z (by decide),λz=>absurd z (by decide),λ_=>h⟩)
 ·rintro ys p2 ⟨ts,o,rfl,el,J,rfl⟩
  match ts,el with
  | [t1,t2,t3,t4],_=>
   rw [B] at J
   have r:=q t1 t2 t3 t4 ⟨(J 0 t1 rfl).1 rfl,(J 1 t2 rfl).2.1 rfl,(J 2 t3 rfl).2.2.1 rfl,(J 3 t4 rfl).2.2.2 rfl⟩
   exact r
theorem j9.uniq {b:Int} {f:Str} {ns:List Int} {t t':Str} (hf:f=Str.ofString "figures"\/f=Str.ofString "is"\/f=Str.ofString "few"\/f=Str.ofString "count") (h:j9 b f ns t) (h':j9 b f ns t'):t=t':=by
 rcases hf with e|e|e|e
 ·rw [h.kZ e,h'.kZ e]
 ·rw [h.is_ e,h'.is_ e]
 ·obtain ⟨L,a,rfl⟩:=h.few e
  obtain ⟨z,n,rfl⟩:=h'.few e
  rw [a.uniq n]
 ·rw [h.count e,h'.count e]
theorem oX.uniq {b:Int} {Y U O J I B z n:Str} (h:oX b Y U O J) (h':oX b I B z n):[D.str Y,D.str U,D.str O,D.str J]=[D.str I,D.str B,D.str z,D.str n]:=by
 rw [h.h1.uniq (.inl rfl) h'.h1,h.h2.uniq (.inr (.inl rfl)) h'.h2,h.h3.uniq (.inr (.inr (.inl rfl))) h'.h3,h.h4.uniq (.inr (.inr (.inr rfl))) h'.h4]
def HN:Nat->D
 | 0=>.lst [.str (Str.ofString "is 1")]
 | n+1=>.lst [HN n]
theorem Qe (n:Nat):wJ "str" (HN n)=some false:=by cases n<;>rfl
theorem vN (s:String):PyData.strOk (Str.ofString s)=true:=by
 unfold PyData.strOk
 rw [Str.ofString_eq_toList,Array.all_eq_true_iff_forall_mem]
 intro c n
 have n:c∈s.toList.map Char.toNat:=by simpa using n
 obtain ⟨k,_,rfl⟩:=zV.mp n
 have:=k.valid
 simp only [yw]
 unfold Char.toNat
 have h:k.val.toNat.isValidChar:=this
 unfold Nat.isValidChar at h
 omega
theorem Qf {a b:Str} (h:PyData.strOk a=true) (g:PyData.strOk b=true):PyData.strOk (a++b)=true:=by
 unfold PyData.strOk at *
 rw [Array.all_eq_true_iff_forall_mem] at *
 intro c n
 have n:c∈(a++b).cps.toList:=by simpa using n
 rw [TX.ou] at n
 rcases zK.mp n with z|z
 ·exact h c (by simpa using z)
 ·exact g c (by simpa using z)
theorem Ah {sp:Str} (z:PyData.strOk sp=true):∀(ns:List Int),PyData.strOk (Str.join sp (ns.map TX.tx))=true
 | []=>by show PyData.strOk Str.empty=true;decide
 | [n]=>vN _
 | n::m::r=>Qf (Qf (vN _) z) (Ah z (m::r))
theorem j9.sk {b:Int} {f:Str} {ns:List Int} {t:Str} (hf:f=Str.ofString "figures"\/f=Str.ofString "is"\/f=Str.ofString "few"\/f=Str.ofString "count") (h:j9 b f ns t):PyData.strOk t=true:=by
 rcases hf with e|e|e|e
 ·rw [h.kZ e];rw [show Txt.join _ _=Str.join _ _ from StrLaws.glued_eq_join _ _];exact Ah (by decide) _
 ·rw [h.is_ e];split<;>exact vN _
 ·obtain ⟨L,a,rfl⟩:=h.few e
  unfold wt
  split
  ·exact vN _
  ·rw [show Txt.join _ _=Str.join _ _ from StrLaws.glued_eq_join _ _];exact Ah (by decide) _
 ·rw [h.count e];exact vN _
theorem Ga:Ep (.lst [.str (Str.ofString "is 1")]):=⟨by simp [L2.plain,L2.iH],by simp [toP,toPs,PyData.canLay0,PyData.canLayAll0,vN],by simp [toP,toPs,PyData.depth,PyData.depthAll]⟩
theorem oX.dok {b:Int} {D B z n:Str} (h:oX b D B z n):Ep (.lst [.str D,.str B,.str z,.str n]):=⟨by simp [L2.plain,L2.iH],by simp [toP,toPs,PyData.canLay0,PyData.canLayAll0,h.h1.sk (.inl rfl),h.h2.sk (.inr (.inl rfl)),h.h3.sk (.inr (.inr (.inl rfl))),h.h4.sk (.inr (.inr (.inr rfl)))],by simp [toP,toPs,PyData.depth,PyData.depthAll]⟩
theorem oX.same {b:Int} {U O J I D B z n:Str} (h:oX b U O J I) (h':oX b D B z n):wN (.lst [.str U,.str O,.str J,.str I]) (.lst [.str D,.str B,.str z,.str n])=true:=by
 rw [h.uniq h']
 exact pO h'.dok
def S_g (cl:Addr):JK:=λH as R=>∃(x:Addr) (b:Int),as=[.d (.atom (.ref x))]/\Dk cl H x b/\R (.rd (.bl true)) as
theorem afw (T:Zs K mg cs):OkH P w base 27 T.eH (S_g T.cl):=by
 have G_v:=ab0 P w base T
 have G_f:=abW P w base T
 refine T.eH.F.Xc FN (λH as R h=>?_) (λcdv A outer s H E C as R Y JC hbs hr h=>?_)
 ·obtain ⟨_,_,rfl,_⟩:=h;rfl
 have hu:=hr.units
 obtain ⟨x,b,rfl,U,q⟩:=h
 have h0:C.bs=[]:=pR (ds:=[.atom (.ref x)]) hbs
 subst JC
 have F_:=U
 obtain ⟨⟨dx,hx⟩,b0,b1⟩:=F_
 refine ⟨_,(bf (aD (i:=1) FN.nd rfl lc (aq (bN (a1 qs))))
    (bf (aD (i:=2) FN.nd rfl lc (qv 1))
    (bf (qF zL rfl (sY rfl T.iz (a1 qi)) (aK (i:=3) FN.nd rfl lc) (aH (aD (i:=2) FN.nd rfl lc (aq (bN (a1 (qv 2)))))))
    (bf (aD (i:=4) FN.nd rfl lc (aq (fB Y T.eV G_v hr.m (a1 (qv 0)))))
    (@bf _ _ _ _ _ _ (@qF _ _ _ _ _ _ _ _ _ zL rfl (@gn _ _ _ _ _ Y (@aq _ _ _ _ (@bN _ _ _ _ _ (@aF _ _ _ _ _ _ (@dY _ _ _ _ _ jk (λ_=>.non)) (@aF _ _ _ _ _ _ (@dY _ _ _ _ _ jz (λ_=>.bl _)) (@aF _ _ _ _ _ _ (@dY _ _ _ _ _ jj (λ_=>.int _)) (@aF _ _ _ _ _ _ (@qw _ _ _ _ (@pv _ 1 _ _ (by rfl) (by first|exact Or.inl rfl|exact Or.inr (Or.inl rfl)|exact Or.inr (Or.inr rfl)) (by decide) (by decide))) (@aF _ _ _ _ _ _ (@vf _ _ _ _ _ _ (@aF _ _ _ _ _ _ (@dY _ _ _ _ _ dm (λ_=>.str _)) (@aF _ _ _ _ _ _ (@dY _ _ _ _ _ jj (λ_=>.int _)) e_ (by rfl)) (by rfl))) (@aF _ _ _ _ _ _ Xz (@aF _ _ _ _ _ _ (@dY _ _ _ _ _ dm (λ_=>.str _)) (@aF _ _ _ _ _ _ (@qw _ _ _ _ (@pv _ 2 _ _ (by rfl) (by first|exact Or.inl rfl|exact Or.inr (Or.inl rfl)|exact Or.inr (Or.inr rfl)) (by decide) (by decide))) e_ (by rfl)) (by rfl)) (by rfl)) (by rfl)) (by rfl)) (by rfl)) (by rfl)) (by rfl))))) (@aK _ _ _ 5 _ FN.nd rfl lc (by first|exact .inl rfl|exact .inr rfl|assumption)) (@aH _ _ _ _ (@bA _ _ _ _ _ _ _ _ _ (PW.pt (@w_or _ _ _ _ _ _ _ _ (@eN _ _ _ _ _ (@eZ _ _ _ _ (@aq _ _ _ _ (@fB _ _ _ _ _ _ _ _ _ _ _ _ Y T.dM G_f hr.m (@aF _ _ _ _ _ _ (@qw _ _ _ _ (@pv _ 0 _ _ (by rfl) (by first|exact Or.inl rfl|exact Or.inr (Or.inl rfl)|exact Or.inr (Or.inr rfl)) (by decide) (by decide))) (@aF _ _ _ _ _ _ (@qw _ _ _ _ (@pv _ 5 _ _ (by rfl) (by first|exact Or.inl rfl|exact Or.inr (Or.inl rfl)|exact Or.inr (Or.inr rfl)) (by decide) (by decide))) (@aS _ _ _ _ _ _ _ e_ rfl) (by rfl)) (by rfl)) (by rfl) (by decide) (by rfl) (by rfl))) (by intro _;rfl))) (@jB _ _ _ _ _ (@Uw _ _ _ _ _ _ _ Y hu (@aq _ _ _ _ (@fB _ _ _ _ _ _ _ _ _ _ _ _ Y T.eV G_v hr.m (@aF _ _ _ _ _ _ (@qw _ _ _ _ (@pv _ 0 _ _ (by rfl) (by first|exact Or.inl rfl|exact Or.inr (Or.inl rfl)|exact Or.inr (Or.inr rfl)) (by decide) (by decide))) e_ (by rfl)) (by rfl) (by decide) (by rfl) (by rfl))) (@qw _ _ _ _ (@pv _ 4 _ _ (by rfl) (by first|exact Or.inl rfl|exact Or.inr (Or.inl rfl)|exact Or.inr (Or.inr rfl)) (by decide) (by decide))))))) (@aH _ _ _ _ (@bU _ _ _ _ _ (@qz _ _ _ _ (@dY _ _ _ _ _ jz (λ_=>.bl _))))) aQ)) (by intro _;rfl))
    (sr (Mw Y hu (qv 1) (aq (bN (a1 qs)))))))))),?_⟩
 refine ak λO z=>?_
 simp only [Hg]
 refine z _ ?_
 clear z O
 refine ak λO z=>?_
 simp only [Hg]
 refine z _ ?_
 clear z O
 refine ak λO z=>?_
 obtain ⟨I,hI⟩:∃I:Nat->aO->Prop,I=(λ(i:Nat) p=>∃w3:Option D,p=[some (.d (.atom (.ref x))),some (.d (.lst [.str (Str.ofString "is 1")])),some (.d (HN i)),Option.map Sl.d w3,none,none]):=⟨_,rfl⟩
 refine vo (n:=2000) (item:=λi=>.int i) (p1:=_) (λQ h=>by simp only [Q];exact h) I (by rw [hI];exact ⟨none,rfl⟩) ?_ ?_
 ·intro i p hi B
  rw [hI] at B
  obtain ⟨w3,rfl⟩:=B
  simp only [Hh]
  rw [hI]
  exact ⟨some _,rfl⟩
 intro p B
 rw [hI] at B
 obtain ⟨w3,rfl⟩:=B
 refine z _ ?_
 clear z O
 have dt:=Qe 2000
 generalize HN 2000=dw at dt
 refine ak λO z=>?_
 simp only [R,S_v]
 refine λH kp=>⟨b,U.kp h0 kp,λt1 t2 t3 t4 hs=>z _ ?_⟩
 clear z O
 refine ak λO z=>?_
 obtain ⟨J,hJ⟩:∃J:Nat->aO->Prop,J=(λ(i:Nat) p=>∃w5:Option D,p=[some (.d (.atom (.ref x))),some (.d (.lst [.str (Str.ofString "is 1")])),some (.d dw),Option.map Sl.d w3,some (.d (.lst [.str t1,.str t2,.str t3,.str t4])),Option.map Sl.d w5]):=⟨_,rfl⟩
 refine vo (n:=8) (item:=λi=>([D.non,D.bl true,D.int 0,.lst [.str (Str.ofString "is 1")],.tup [.str (Str.ofString "is"),.int 1],.lK [] [],.str (Str.ofString ""),dw]).getD i .non) (p1:=_) (λQ h=>by simp only [Hh];exact h) J (by rw [hJ];exact ⟨none,rfl⟩) ?_ ?_
 ·intro i p hi B
  rw [hJ] at B
  obtain ⟨w5,rfl⟩:=B
  have hb:Bad cs b (([D.non,D.bl true,D.int 0,.lst [.str (Str.ofString "is 1")],.tup [.str (Str.ofString "is"),.int 1],.lK [] [],.str (Str.ofString ""),dw]).getD i .non) cs.aG:=by
   match i,hi with
   | 0,_=>exact .text rfl
   | 1,_=>exact .text rfl
   | 2,_=>exact .text rfl
   | 3,_=>exact .text rfl
   | 4,_=>exact .text rfl
   | 5,_=>exact .text rfl
   | 6,_=>exact .row (AT.mono (AT.uF (m:=5) (by decide)) (by decide)) (by decide)
   | 7,_=>exact .text dt
  generalize ([D.non,D.bl true,D.int 0,.lst [.str (Str.ofString "is 1")],.tup [.str (Str.ofString "is"),.int 1],.lK [] [],.str (Str.ofString ""),dw]).getD i .non=th at hb
  simp only [Q,S_f,S_v]
  refine λH kp=>⟨b,U.kp h0 kp,.inr ⟨_,hb,.command⟩,λH kp=>⟨b,U.kp h0 kp,λu1 u2 u3 u4 Z=>⟨Z.dok,hs.dok,?_⟩⟩⟩
  rw [Z.same hs,zh (by decide),hJ]
  exact ⟨some _,rfl⟩
 intro p B
 rw [hJ] at B
 obtain ⟨w5,rfl⟩:=B
 refine z _ ?_
 clear z O
 simp only [Q]
 refine ⟨Ga,Ga,?_⟩
 rw [pO Ga]
 exact q
theorem Vk {C:Pc} {W:Hp} {cl x n:Addr} {b:Int} (h:W x=some (.ins cl n [("base",.int b)])) (D:2<=b) (B:b<=36) (z:C.bs=[]) {H:Hp} (kp:Kp (C.add W) H):Dk cl H x b:=
 Dk.kp (C:=C.add W) ⟨⟨n,(i_ h:(C.add W).H0 x=_)⟩,D,B⟩ z kp
theorem Qg (ns:List Int) (lo hi:Option Int):cut (ns.map D.int) lo hi=(cut ns lo hi).map D.int:=by
 unfold cut
 rw [z9,<-List.map_drop,<-List.map_take]
theorem Uc {α:Type} (ns:List α) (lo hi:Option Int):(cut ns lo hi).length<=ns.length:=by
 unfold cut
 rw [yq,yA]
 omega
theorem JF {b:Int} {w:Str} (O:AT 50000 w):(∃n,TX.rowOf w=some (("base":Str),[n])/\2<=n/\n<=36/\due b w="")\/(∃f ns,TX.rowOf w=some (f,ns)/\Good b f ns/\due b w="")\/(∃U,Bad cs b (.str w) U/\Named cs U (due b w)/\due b w≠""):=by
 unfold due
 cases h:TX.rowOf w with
 | none=>exact .inr (.inr ⟨_,.row O h,.command,show ("NoCommand":Str)≠"" by decide⟩)
 | some r=>
  obtain ⟨f,ns⟩:=r
  show _\/_\/∃U,_/\Named cs U (iT b f ns)/\iT b f ns≠""
  have Z:Y8 b (some (f,ns))=iT b f ns:=rfl
  rw [Z]
  have Y:=TX.Aa h
  by_cases B:f=("base":Str)
  ·have D:iT b f ns=if 2<=ns.getD 0 0/\ns.getD 0 0<=36 then ("":Str) else "NoBase":=by unfold iT;rw [zo B]
   rw [D]
   subst B
   cases Y with
   | uh n0 n1=>
    rename_i n
    by_cases c:2<=n/\n<=36
    ·exact .inl ⟨n,rfl,c.1,c.2,zo c⟩
    ·refine .inr (.inr ⟨cs.bG,.uh O h c,?_⟩)
     rw [zh (show ¬(2<=[n].getD 0 0/\[n].getD 0 0<=36) from c)]
     exact ⟨.base,by decide⟩
  by_cases I:f=("place":Str)
  ·have D:iT b f ns=if M.dh b (ns.getD 0 0)=true then ("":Str) else "NoMirror":=by unfold iT;rw [zh B,zo I]
   rw [D]
   subst I
   cases Y with
   | jY n0 n1=>
    rename_i n
    by_cases c:M.dh b n=true
    ·exact .inr (.inl ⟨_,_,rfl,⟨B,λ_=>c,λz=>absurd z (by decide)⟩,zo c⟩)
    ·refine .inr (.inr ⟨cs.aR,.place O h (by simpa using c),?_⟩)
     rw [zh (show ¬M.dh b ([n].getD 0 0)=true from c)]
     exact ⟨.mirror,by decide⟩
  by_cases J:f=("way":Str)
  ·have D:iT b f ns=if ns.getD 2 0<M.cg true (M.bH b (ns.getD 0 0)).reverse (ns.getD 1 0).toNat (ns.getD 0 0) then ("":Str) else "NoPlace":=by unfold iT;rw [zh B,zh I,zo J]
   rw [D]
   subst J
   cases Y with
   | CK n0 n1 k1 p0 p1=>
    rename_i n pl k
    by_cases c:pl<M.cg true (M.bH b n).reverse k n
    ·exact .inr (.inl ⟨_,_,rfl,⟨B,λz=>absurd z I,λ_=>c⟩,zo c⟩)
    ·refine .inr (.inr ⟨cs.bh,.way O h (by omega),?_⟩)
     rw [zh (show ¬[n,((k:Nat):Int),pl].getD 2 0<M.cg true (M.bH b ([n,((k:Nat):Int),pl].getD 0 0)).reverse ([n,((k:Nat):Int),pl].getD 1 0).toNat ([n,((k:Nat):Int),pl].getD 0 0) from c)]
     exact ⟨.place,by decide⟩
  ·have D:iT b f ns="":=by unfold iT;rw [zh B,zh I,zh J]
   exact .inr (.inl ⟨_,_,rfl,⟨B,λz=>absurd z I,λz=>absurd z J⟩,D⟩)
def uD:Ex:=λW ds R=>∃ns:List Int,ds=[.Aj ns]/\W=(λ_=>none)/\ns.length<=63/\∀n,R (.bl true) n
theorem Ud (T:Zs K mg cs):Zk P w base 28 T.vL uD:=by
 have afx:=T_ P w base T
 have G_c:=afq P w base T
 have G_T:=afu P w base T
 have G_v:=ab0 P w base T
 have G_f:=abW P w base T
 have afy:=abY P w base T
 have G_g:=afw P w base T
 refine T.vL.F.aaM qd (λW ds R h=>?_) (λcdv A outer s H E C W ds R J O hr h=>?_)
 ·obtain ⟨_,rfl,_⟩:=h;rfl
 have hu:=hr.units
 obtain ⟨ns,rfl,rfl,hl,q⟩:=h
 refine ⟨_,(aV (tW (i:=1) qd.nd rfl lc (Yg O T.mkd afx hr.m rfl T.mC T.abq))
    (aV (a_ (λW ok=>(bA (PW.pt (w_or (eN (eZ (aq (fB O T.dM G_f hr.m (a3 (qv 1) qs qs))))) (jB (eN (eZ (aq (fB O T.dM G_f hr.m (a3 (qv 1) qs qs)))))))) (sr (dY jz (λ_=>.bl _))) aQ)))
    (aV (tV zL rfl (λW ok=>(gn O (aq (adq O (qv 0) (pH qi) (pH qi))))) (λW ok=>(aK (i:=2) qd.nd rfl lc)) (aV (a_ (λW ok=>(aD (i:=3) qd.nd rfl lc (aq (aj O T.fW G_c hr.m (a1 (qv 2)))))))
    (aV (a_ (λW ok=>(aD (i:=4) qd.nd rfl lc (aq (fB O T.qg G_T hr.m (a2 (qv 1) (qv 3)))))))
    (aV (a_ (λW ok=>(aD (i:=5) qd.nd rfl lc (aq (fB O T.eV G_v hr.m (a1 (qv 1)))))))
    (aV (v_or (a_ (λW ok=>(bA (eN (eZ (aq (fB O T.dM G_f hr.m (a3 (qv 1) (qv 3) (qv 4)))))) (sr (dY jz (λ_=>.bl _))) aQ))) (Sw (jT O T.dM afy hr.m (λW ok=>(a3 (qv 1) (qv 3) (qv 4)))) (fj (a_ (λW ok=>(bU (qz (dY jz (λ_=>.bl _)))))))))
    (fj (a_ (λW ok=>(bA (PW.pt (w_and (Lw O hu (qv 4) qs) (Ef (Uw O hu (aq (fB O T.eV G_v hr.m (a1 (qv 1)))) (qv 5))))) (sr (dY jz (λ_=>.bl _))) aQ)))))))))
    (fj (a_ (λW ok=>(bU (fB O T.eH G_g hr.m (a1 (qv 1)))))))))),?_⟩
 refine bx λY B=>?_
 simp only [R,HJ]
 refine λx dx _ _ hne=>⟨dx,aL,B _ _ ?_⟩
 clear B Y
 generalize hW:upd (upd (upd (λ_=>none) dx (HO.own x)) x (HO.ins T.cl dx [])) x (HO.ins T.cl dx [(Str.ofString "base",V.int 10)])=W
 have U:W x=some (.ins T.cl dx [("base",.int 10)]):=by rw [<-hW];exact aL
 clear hW
 refine bx λY B=>?_
 simp only [R,S_f]
 refine λH kp=>⟨10,Vk U (by decide) (by decide) J kp,.inl ⟨AT.mono (AT.uF (m:=50) (by decide)) (by decide),Str.ofString "is",[121],by decide,by decide,λz=>absurd z (by decide),λz=>absurd z (by decide)⟩,λH kp=>⟨10,Vk U (by decide) (by decide) J kp,.inr ⟨cs.bG,.uh (n:=1) (AT.mono (AT.uF (m:=50) (by decide)) (by decide)) (by decide) (by decide),.base⟩,B _ _ ?_⟩⟩
 clear B Y
 have hc:=Qg ns (some 1) (some 51)
 have lc:=Uc ns (some 1) (some 51)
 generalize cut ns (some 1) (some 51)=L at hc lc
 refine bx λY B=>?_
 obtain ⟨I,hI⟩:∃I:Nat->Hp->aO->Prop,I=λ_ W p=>∃(b:Int) (w2 w3 w4 w5:Option D),W x=some (.ins T.cl dx [("base",.int b)])/\2<=b/\b<=36/\p=[some (.d (.Aj ns)),some (.d (.atom (.ref x))),Option.map Sl.d w2,Option.map Sl.d w3,Option.map Sl.d w4,Option.map Sl.d w5]:=⟨_,rfl⟩
 refine mz (n:=L.length) (item:=λi=>(L.map D.int).getD i .non) (p1:=_) (λQ h=>by
  simp only [Q,hc,z9]
  exact h) I (by rw [hI];exact ⟨10,none,none,none,none,U,by decide,by decide,rfl⟩) ?_ ?_
 ·intro i W p hi hp
  rw [hI] at hp
  obtain ⟨b,w2,w3,w4,w5,U,b0,b1,rfl⟩:=hp
  rw [getD_ints hi]
  simp only [Hg]
  refine bx λY B=>?_
  simp only [R,S_c]
  refine λt ta=>B _ _ ?_
  clear B Y
  refine bx λY B=>?_
  simp only [R,S_T]
  refine λH kp=>⟨b,Vk U b0 b1 J kp,ta.mono (by decide),B _ _ ?_⟩
  clear B Y
  have ta5:AT 50000 t:=ta.mono (by decide)
  refine bx λY B=>?_
  simp only [R,S_v]
  refine λH kp=>⟨b,Vk U b0 b1 J kp,λt1 t2 t3 t4 hs=>B _ _ ?_⟩
  clear B Y
  refine bx λY B=>?_
  have hgo:∀(W':Hp) (b':Int) (d:Str),W' x=some (.ins T.cl dx [("base",.int b')])->2<=b'->b'<=36->(d=""\/d≠""/\b'=b)->Y W' [some (.d (.Aj ns)),some (.d (.atom (.ref x))),some (.d (.int (L.getD i 0))),some (.d (.str t)),some (.d (.str d)),some (.d (.lst [.str t1,.str t2,.str t3,.str t4]))]:=λW' b' d hx' b0' b1' hd=>by
   refine B _ _ ?_
   simp only [Q,S_v]
   have hn:I (i+1) W' [some (.d (.Aj ns)),some (.d (.atom (.ref x))),some (.d (.int (L.getD i 0))),some (.d (.str t)),some (.d (.str d)),some (.d (.lst [.str t1,.str t2,.str t3,.str t4]))]:=by
    rw [hI]
    exact ⟨b',some _,some _,some _,some _,hx',b0',b1',rfl⟩
   rcases hd with rfl|⟨ne,rfl⟩
   ·rw [zo rfl];exact hn
   ·rw [zh ne]
    refine λH kp=>⟨b',Vk hx' b0' b1' J kp,λu1 u2 u3 u4 hs'=>⟨hs'.dok,hs.dok,?_⟩⟩
    rw [hs'.same hs,zh (by decide)]
    exact hn
  rcases JF (cs:=cs) (b:=b) ta5 with ⟨n,Z,n0,n1,ed⟩|⟨f,ns,Z,hg,ed⟩|⟨Cl,hb,hn,ne⟩
  ·rw [ed]
   refine .inr ?_
   simp only [R,abX]
   exact ⟨dx,b,U,ta5,n,Z,n0,n1,hgo _ n _ aL n0 n1 (.inl rfl)⟩
  ·rw [ed]
   refine .inl ?_
   simp only [R,S_f]
   exact λH kp=>⟨b,Vk U b0 b1 J kp,.inl ⟨ta5,f,ns,Z,hg⟩,hgo _ b _ U b0 b1 (.inl rfl)⟩
  ·refine .inl ?_
   simp only [R,S_f]
   exact λH kp=>⟨b,Vk U b0 b1 J kp,.inr ⟨Cl,hb,hn⟩,hgo _ b _ U b0 b1 (.inr ⟨ne,rfl⟩)⟩
 ·intro W p hp
  rw [hI] at hp
  obtain ⟨b,w2,w3,w4,w5,U,b0,b1,rfl⟩:=hp
  refine B _ _ ?_
  simp only [Q,S_g]
  exact λH kp=>⟨b,Vk U b0 b1 J kp,q W⟩
end
theorem Qh {K:PySem.W.Frag} {H:Hp} {a:Addr} {ns:List Int} {E:XK} (B:ns.length<=63) (D:iV K H a (ns.map V.int)):JL K uD [.ref a] H (λv _=>v=.bl true) E:=
 ⟨λ_=>none,[.Aj ns],H,λr _=>r=.bl true,aP.refl _,(λa o z=>by cases z),.cons (.Aj D) .nil,⟨ns,rfl,rfl,B,λ_=>rfl⟩,λr v I J H' po n=>by
  subst n
  have h:=po.res
  cases h
  rfl⟩
@[elab_as_elim] theorem S8 {α:Type} {C:List α->Prop} (us:List α) (n:us.length=1) (h:∀x0:α,C [x0]):C us:=match us,n,h with | [x0],_,h=>h x0
@[elab_as_elim] theorem ab4 {α:Type} {C:List α->Prop} (us:List α) (n:us.length=2) (h:∀x0 x1:α,C [x0,x1]):C us:=match us,n,h with | [x0,x1],_,h=>h x0 x1
@[elab_as_elim] theorem afA {α:Type} {C:List α->Prop} (us:List α) (n:us.length=3) (h:∀x0 x1 x2:α,C [x0,x1,x2]):C us:=match us,n,h with | [x0,x1,x2],_,h=>h x0 x1 x2
@[elab_as_elim] theorem afB {α:Type} {C:List α->Prop} (us:List α) (n:us.length=4) (h:∀x0 x1 x2 x3:α,C [x0,x1,x2,x3]):C us:=match us,n,h with | [x0,x1,x2,x3],_,h=>h x0 x1 x2 x3
section
variable {K:PySem.W.Frag} {h:Heap} {mg:Str->Option Value} (X:K.In h) (G:h.Ns mainGlobals mg)
abbrev aC {x:Str} {st:Stmt} {ps:List Str} {f:Addr} {O:Value} {J I:Option Addr} {D:Array (Option Value)} {kV z B n ct:Value} (a:PySem.W.nsIn K mainGlobals x=some (some (.ref f))) (l:K.lookup f=some ⟨O,J,.func (PySem.W.fnOf x x (kj st) (dG st) (aa st) .none kV z B I n ct),D⟩) (c:PySem.W.codeIn K n x=true) (k:PySem.W.keepIn K (.ref f)=true)
  (b:∀(kV z B:Value) (I:Option Addr) (n ct:Value) (us:List Value),us.length=ps.length->bindArgs (PySem.W.fnOf x x (kj st) (dG st) (aa st) .none kV z B I n ct) ⟨us,[]⟩=pure (ps.zip us):=by first|exact λ_ _ _ _ _ _ us hl=>K48.S8 us hl λ_=>rfl|exact λ_ _ _ _ _ _ us hl=>K48.ab4 us hl λ_ _=>rfl|exact λ_ _ _ _ _ _ us hl=>K48.afA us hl λ_ _ _=>rfl|exact λ_ _ _ _ _ _ us hl=>K48.afB us hl λ_ _ _ _=>rfl):aM K mg x st ps:=⟨f,_,lX l c k,PySem.W.mg_of X G a,(lX (st:=st) l c k).binds b⟩
theorem n1 (X:K.In h) (G:h.Ns mainGlobals mg) {x:Str} {v:Value} (a:PySem.W.nsIn K mainGlobals x=some (some v)):mg x=some v:=PySem.W.mg_of X G a
theorem n2 (X:K.In h) (G:h.Ns mainGlobals mg) {x:Str} {i:Int} {t:Tok} (a:PySem.W.nsIn K mainGlobals x=some (some (.int i t))):∃t,mg x=some (.int i t):=⟨t,PySem.W.mg_of X G a⟩
theorem n3 (X:K.In h) (G:h.Ns mainGlobals mg) {x y:Str} {t:Tok} (a:PySem.W.nsIn K mainGlobals x=some (some (.str y t))):∃t,mg x=some (.str y t):=⟨t,PySem.W.mg_of X G a⟩
theorem e1 {a:Addr} (k:PySem.W.isClsIn K a=true) (t:PySem.W.typeIn K (.ref a)=some (.type "type")) (s:PySem.W.subIn K (.ref a) (.ref a)=some true):PySem.W.kitOne K (.ref a) (.ref a)=some true:=fZ k t s λ_=>rfl
theorem e2 {a r:Addr} (k:PySem.W.isClsIn K a=true) (t:PySem.W.typeIn K (.ref a)=some (.type "type")) (s:PySem.W.subIn K (.ref a) (.ref a)=some true) (p:PySem.W.subIn K (.ref r) (.ref a)=some false):PySem.W.kitOne K (.ref r) (.ref a)=some false:=fZ k t p (XC p s)
theorem e3 {r:Addr} (p:PySem.W.subIn K (.ref r) (.type "ValueError")=some true):PySem.W.kitOne K (.ref r) (.type "ValueError")=some true:=Eu (by kernel_rfl) p (λz=>by cases z)
abbrev kO (K:PySem.W.Frag) (u v:Value) (b:Bool):Prop:=PySem.W.kitOne K u v=some b
theorem Vl {a0 a1 a2 a3 z D B n:Addr} (h0:oZ K mg "MirrorError" a0) (h1:oZ K mg "NoBase" a1) (h2:oZ K mg "NoNumber" a2) (h3:oZ K mg "NoMirror" a3) (h4:oZ K mg "NoPlace" z) (h5:oZ K mg "NoWay" D) (h6:oZ K mg "NoText" B) (h7:oZ K mg "NoCommand" n) (h8:XF K n) (h9:XF K a1) (h10:XF K a3) (h11:XF K z) (h12:PySem.W.subIn K (.ref n) (.ref a0)=some true) (h13:PySem.W.subIn K (.ref a1) (.ref a0)=some true) (h14:PySem.W.subIn K (.ref a3) (.ref a0)=some true) (h15:PySem.W.subIn K (.ref z) (.ref a0)=some true) (h16:kO K (.ref n) (.type "ValueError") true) (h17:kO K (.ref a1) (.type "ValueError") true) (h18:kO K (.ref a3) (.type "ValueError") true) (h19:kO K (.ref z) (.type "ValueError") true) (h20:kO K (.type "NoneType") (.type "ValueError") false) (h21:kO K (.type "NoneType") (.ref n) false) (h22:kO K (.type "NoneType") (.ref a1) false) (h23:kO K (.type "NoneType") (.ref a3) false) (h24:kO K (.type "NoneType") (.ref z) false) (h25:kO K (.type "NoneType") (.ref a2) false) (h26:kO K (.type "NoneType") (.ref B) false) (h27:kO K (.type "NoneType") (.ref D) false) (h28:kO K (.ref n) (.ref n) true) (h29:kO K (.ref n) (.ref a1) false) (h30:kO K (.ref n) (.ref a3) false) (h31:kO K (.ref n) (.ref z) false) (h32:kO K (.ref n) (.ref a2) false) (h33:kO K (.ref n) (.ref B) false) (h34:kO K (.ref n) (.ref D) false) (h35:kO K (.ref a1) (.ref n) false) (h36:kO K (.ref a1) (.ref a1) true) (h37:kO K (.ref a1) (.ref a3) false) (h38:kO K (.ref a1) (.ref z) false) (h39:kO K (.ref a1) (.ref a2) false) (h40:kO K (.ref a1) (.ref B) false) (h41:kO K (.ref a1) (.ref D) false) (h42:kO K (.ref a3) (.ref n) false) (h43:kO K (.ref a3) (.ref a1) false) (h44:kO K (.ref a3) (.ref a3) true) (h45:kO K (.ref a3) (.ref z) false) (h46:kO K (.ref a3) (.ref a2) false) (h47:kO K (.ref a3) (.ref B) false) (h48:kO K (.ref a3) (.ref D) false) (h49:kO K (.ref z) (.ref n) false) (Z:kO K (.ref z) (.ref a1) false) (Y:kO K (.ref z) (.ref a3) false) (U:kO K (.ref z) (.ref z) true) (O:kO K (.ref z) (.ref a2) false) (J:kO K (.ref z) (.ref B) false) (I:kO K (.ref z) (.ref D) false):XT K mg ⟨a0,a1,a2,a3,z,D,B,n⟩:=⟨h0,h1,h2,h3,h4,h5,h6,h7,h8,h9,h10,h11,h12,h13,h14,h15,h16,h17,h18,h19,h20,h21,h22,h23,h24,h25,h26,h27,h28,h29,h30,h31,h32,h33,h34,h35,h36,h37,h38,h39,h40,h41,h42,h43,h44,h45,h46,h47,h48,h49,Z,Y,U,O,J,I⟩
theorem qU {a:Addr} {B:Option Addr} {sl:Array (Option Value)} {n:Nat} {a1 n1:Int} {z:Tok} (l:K.lookup a=some ⟨.type "tuple",B,.seq #[.int a1 z] n,sl⟩) (e1:a1=n1):Qn K a [n1]:=⟨_,_,_,l,rfl,rfl,(by show 1<=sizeLine;decide),e1▸.cons ⟨_,rfl⟩ .nil⟩
theorem ab5 {a:Addr} {D:Option Addr} {sl:Array (Option Value)} {n:Nat} {a1 n1 a2 n2:Int} {B z:Tok} (l:K.lookup a=some ⟨.type "tuple",D,.seq #[.int a1 B,.int a2 z] n,sl⟩) (e1:a1=n1) (e2:a2=n2):Qn K a [n1,n2]:=⟨_,_,_,l,rfl,rfl,(by show 2<=sizeLine;decide),e1▸e2▸.cons ⟨_,rfl⟩ (.cons ⟨_,rfl⟩ .nil)⟩
theorem ab6 {a:Addr} {I:Option Addr} {sl:Array (Option Value)} {n:Nat} {a1 n1 a2 n2 a3 n3:Int} {D B z:Tok} (l:K.lookup a=some ⟨.type "tuple",I,.seq #[.int a1 D,.int a2 B,.int a3 z] n,sl⟩) (e1:a1=n1) (e2:a2=n2) (e3:a3=n3):Qn K a [n1,n2,n3]:=⟨_,_,_,l,rfl,rfl,(by show 3<=sizeLine;decide),e1▸e2▸e3▸.cons ⟨_,rfl⟩ (.cons ⟨_,rfl⟩ (.cons ⟨_,rfl⟩ .nil))⟩
theorem Gb {a:Addr} {es:Array DictEntry} {n:Nat} {T:List (Str × Addr)} (l:K.lookup a=some ⟨.type "dict",none,.dict es n,#[]⟩) (lo:(a == sysModules)=false) (r:PyProof.Rows.KTD.Rows (λd v=>v=Value.ref d) es.toList T):KTb K a T:=⟨lo,_,_,_,l,⟨rfl,rfl,rfl⟩,rfl,r⟩
end
theorem fin {l:PySem.W.OpenLaw} {w:World} {K:PySem.W.Frag} {mg:Str->Option Value} {cs:XA} {z:Addr} (n:mg "law"=some (.ref z)) (T:Zs K mg cs):∃fd:FuncData,(∀(s:Shared) (v:Value),BindsTo s fd ⟨[v],[]⟩ [("script",v)])/\∀base:Heap,K.In base->base.Ns mainGlobals mg->bV l.prog w K mg base m7 28 z fd ["script"] (JL K uD):=by
 obtain ⟨_,_,kV,B,I,J,D,ct,_,e,_,_⟩:=T.vL.F.ex
 have e2:z=T.vL.f:=Value.ref.inj (ya (n.symm.trans T.vL.m))
 subst e2
 refine ⟨T.vL.fd,λs v=>?_,λbase _ _=>Ud _ _ _ T⟩
 rw [e]
 exact .of_eq rfl
theorem walk {l:PySem.W.OpenLaw} {q:Program} {B:List Str} {Z:(Str->Option Value)->Heap->Prop} {I:World->Heap->Prop} {d:DefRec} {K:Params->PySem.W.Frag} (J:l.most=some 63) (D:d.params.defaults=[])
  (U:∀(w:World) (h:Heap),I w h->(K w.params).In h)
  (F:∀(w:World) (mg:Str->Option Value) (fa:Addr) (h:Heap),(K w.params).In h->h.Ns mainGlobals mg->mg d.name=some (.ref fa)->
   ∃fd:FuncData,(∀(s:Shared) (u:Value),BindsTo s fd ⟨[u],[]⟩ [("script",u)])/\∀base:Heap,(K w.params).In base->base.Ns mainGlobals mg->bV l.prog w (K w.params) mg base m7 28 fa fd ["script"] (JL (K w.params) uD)) :
  PySem.W.WalkO q B Z I l.row.toRowW d [] (λf vs=>PySem.call f vs):=
 L2.Gm (n:=63) (k:=28) (x:="script") (CX:=λ_=>m7) (sp:=λw=>JL (K w.params) uD) J (by decide) D ⟨rfl,by decide,by decide,rfl⟩ U F (λ_ _ a ns O _ Y=>Qh O Y) λ_ _ _ _ _ z=>z
end K48
namespace PySem.W.Fast
def tw15631975998486938328:=()
def tw17346664113523845233:=()
def tw6734211986961847766:=()
def tw15461794069741998150:=()
def tw15774484530823294506:=()
def tw14744343913651298852:=()
def tw10854131335183814834:=()
def tw11394094254405129558:=()
def tw2171629834571954209:=()
def tw7097494681446161694:=()
def tw4110376411122393714:=()
def tw12423470252453403657:=()
def tw8126930330897639940:=()
def tw3981035952372949091:=()
def tw7306708984018028592:=()
def tw11045027842685868176:=()
def tw7648267201876539369:=()
def tw11126639268204210919:=()
def tw9852872893991282064:=()
def tw10782630496780833904:=()
def tw3938818174213432979:=()
def tw6273486366378412949:=()
def tw6108812557401050295:=()
def tw13868310658080253642:=()
def tw5550591301060039894:=()
def tw12795473682988466165:=()
def tw17519040972948167021:=()
def tw3225243822972249729:=()
def tw13676666183994025130:=()
def tw6809477334737678826:=()
def tw16858508372961071131:=()
def tw15544984485009519794:=()
def tw12997685578271378288:=()
def tw5012699614185002552:=()
def tw8003997564860227064:=()
def tw10887047624652156742:=()
def tw11084892730205626935:=()
def tw4181939379646236587:=()
def tw12854855708721465071:=()
def tw3108800095104901026:=()
def tw13210886598975817423:=()
def tw8170574178822460614:=()
def tw38619640093803522:=()
def tw456268836250007384:=()
def tw6923917076568650482:=()
def tw7830745814324762176:=()
def tw7220935354842683532:=()
def tw12758102744348261291:=()
def tw3382677452359250647:=()
def tw7949667073934610096:=()
def tw6445461951321254560:=()
def tw5048965671021248431:=()
def tw11947248191135940848:=()
def tw9943857746137822808:=()
def tw13226248408599372350:=()
def tw14638359129683522148:=()
def tw16623753539092336601:=()
def tw2128975240259022716:=()
def tw11044504525340176271:=()
def tw6023748292853196383:=()
def tw10738212797469984043:=()
def tw1174792921743033597:=()
def tw17259693581302238650:=()
def tw2694798989488417362:=()
def tw5136583791449530610:=()
def tw9696558794467708585:=()
def tw4366164851774197817:=()
def tw9936794610292507822:=()
def tw17381908389124620998:=()
def tw8659901813725657046:=()
def tw15725766550057998352:=()
def tw18141341397776566350:=()
def tw16185231130648048597:=()
def tw9917805818821591872:=()
def tw7420337312602022657:=()
def tw6446743454356734705:=()
def tw15053534177586604965:=()
def tw871240137153078954:=()
def tw13943247402819137928:=()
def tw3656447721322899785:=()
def tw18110806267422398787:=()
def tw16600658671237436921:=()
def tw2014512992753607252:=()
def tw9442017949592938200:=()
def tw9736506608800623593:=()
def tw8348757632522871471:=()
def tw17286537499461596145:=()
def tw4438998337358641858:=()
def tw6462383663612291625:=()
def tw15102098712856203907:=()
def tw5148170893849819301:=()
def tw9775831509694295531:=()
def tw130627171721103842:=()
def tw2461202888099490943:=()
def tw3048477626918926685:=()
def tw13836903012259241089:=()
def tw13419323184773085135:=()
def tw9668178940066093033:=()
def tw8921641408313069353:=()
def tw3921492192728003485:=()
def tw18285924969936889185:=()
def tw17280519340004312853:=()
def tw7347753754015473561:=()
def tw4675394385690477503:=()
def tw16432771549884285449:=()
def tw12123712267949099802:=()
def tw15727852605171986301:=()
def tw3791325450091541434:=()
def tw404505835383623816:=()
def tw1090354101127294973:=()
def tw7298637072205251252:=()
def tw18366926813200350808:=()
def tw11308547843763972494:=()
def tw4014146338603034534:=()
def tw8077422099079842895:=()
def tw2367365473588412947:=()
def tw7852014215134286206:=()
def tw5606122271545230386:=()
def tw4391885976353262183:=()
def tw9038813866641458787:=()
def tw969249817214405798:=()
def tw13328951243851645199:=()
def tw12875585279259885305:=()
def tw7967217082194438868:=()
def tw12218111403207525665:=()
def tw710874845182507839:=()
def tw10193237172386397593:=()
def tw15287479567187521552:=()
def tw16900313994898965045:=()
def tw3850709554133417411:=()
def tw10428911951849889532:=()
def tw2840981740648382995:=()
def tw5180171910148328869:=()
def tw1215174246933842383:=()
def tw15075189118710791515:=()
def tw16740148547165875305:=()
def tw10718951194827166020:=()
def tw12427645622326916212:=()
def tw663886146222789151:=()
def tw1558023931473065418:=()
def tw17301037284477942156:=()
def tw11975756115227071306:=()
def tw9081569087953689832:=()
def tw9287241386956349685:=()
def tw843401346166180362:=()
def tw10537080850307828876:=()
def tw4596725571392008881:=()
def tw2197673020731104151:=()
def tw7418794500362650851:=()
def tw5431101504058172632:=()
def tw13893214129798203438:=()
def tw5140640877859873301:=()
def tw16609165961946505519:=()
def tw17093437632428712688:=()
def tw1670942818379790796:=()
def tw10673962020153258644:=()
def tw7761049677044857504:=()
def tw6947143715163700840:=()
def tw13699951104695336058:=()
def tw17809781686554205276:=()
def tw13742100344901959063:=()
def tw11405151142190585615:=()
def tw17806008842037180503:=()
def tw5701008852918413599:=()
def tw3158691644442879460:=()
def tw5365409861649622932:=()
def tw17044199863241915228:=()
def tw504338223721997006:=()
def tw5128495462309195285:=()
def tw6942102265686214532:=()
def tw7892416129815265508:=()
def tw8760757214285402549:=()
def tw4608206025362385312:=()
def tw8842814592336238631:=()
def tw18316031948355812458:=()
def tw1590989693645685846:=()
def tw7520046673631906589:=()
def tw1889258145462296034:=()
def tw13639198055032344625:=()
def tw15993172799134843350:=()
def tw3343025159088058274:=()
def tw9982056697907587048:=()
def tw6100694428804174657:=()
def tw16773884475858040756:=()
def tw13843003574698495245:=()
def tw13739511025695681997:=()
def tw3030849701182007539:=()
def tw15508524924903400521:=()
def tw9365786658938542613:=()
def tw16735567148414159371:=()
def tw4965202840332932353:=()
def tw4350851807413972448:=()
def tw274710338139333041:=()
def tw17122051479002472538:=()
def tw17495847892610082257:=()
def tw2543638001892647053:=()
def tw6969908083224192509:=()
def tw698718514572673366:=()
def tw1743926973060596300:=()
def tw13820923163799353377:=()
def tw6527550217958043930:=()
def tw9036426891629325113:=()
def tw2905797380912549537:=()
def tw3165789934162724941:=()
def tw5421532094984400656:=()
def tw9406666979504425641:=()
def tw7630681902503577491:=()
def tw4989522843834976350:=()
def tw11393922406132159206:=()
def tw4924655413589075874:=()
def tw15442129977304634007:=()
def tw1631481114646980593:=()
def tw1193718921831588517:=()
def tw12754958904189865552:=()
def tw9561758823183715191:=()
def tw8008422644325850652:=()
def tw9800409775560286091:=()
def tw4973540204357627508:=()
def tw18308903438863757832:=()
def tw16086726807203246328:=()
def tw5106335396303939339:=()
def tw15877556195423437921:=()
def tw16077060410028457279:=()
def tw9891147950659448841:=()
def tw1761791513931441019:=()
def tw10076938989167310583:=()
def tw15144222976784812533:=()
def tw16942038406489046029:=()
def tw14776741555583227558:=()
def tw9237746512909830104:=()
def tw4731004698824869456:=()
def tw475587401868939811:=()
def tw5929166898726965952:=()
def tw634803408768239237:=()
def tw14338382813902069658:=()
def tw16628673668083591251:=()
def tw10559745126904378493:=()
def tw17079906475868081284:=()
def tw5264038558680955474:=()
def tw13216119523671182210:=()
def tw13336552261669557063:=()
def tw7479148181079891200:=()
def tw10919294721296130848:=()
def tw14061193437618186400:=()
def tw7408305293383887660:=()
def tw6732520327333150302:=()
def tw13841906453014685276:=()
def tw7690168432431902478:=()
def tw15584234660394582836:=()
def tw7977230264365736196:=()
def tw5356904478909416577:=()
def tw13963790386241951787:=()
def tw7974284817550319134:=()
def tw4304207281597452762:=()
def tw8286772014042401599:=()
def tw1211477172999213970:=()
def tw10977969163636710919:=()
def tw2250998797072501561:=()
def tw12262066400868287829:=()
def tw5358404613916678998:=()
def tw7544908821198852091:=()
def tw13120638639198933634:=()
def tw16518432273536437437:=()
def tw679402836350971892:=()
def tw17288786530168508515:=()
def tw4216407919592985416:=()
def tw16269559128025090477:=()
def tw373408967884975860:=()
def tw17952989076550458111:=()
def tw8777175975723517204:=()
def tw15560524841126340650:=()
def tw12228375424961360135:=()
def tw10421169258657325465:=()
def tw7685905504445423142:=()
def tw15086045303931684237:=()
def tw10146138549602020553:=()
def tw1352684567953660656:=()
def tw4436335981900212689:=()
def tw369559247642532885:=()
def tw194226650196483949:=()
def tw14156394045256381563:=()
def tw2131034898805487509:=()
def tw10722316977641565332:=()
def tw3120593164344101966:=()
def tw8367634967747427536:=()
def tw12979353909673559578:=()
def tw7455051777787927318:=()
def tw11280983243295717711:=()
def tw16750840933070359265:=()
def tw11337134822274714916:=()
def tw13266907265333098075:=()
def tw13571777934093379911:=()
def tw4733768264832924693:=()
def tw1629994210935518121:=()
def tw9934731839146553079:=()
def tw4993581283238983167:=()
def tw8278735375125012494:=()
def tw3412807777066959529:=()
def tw16793580726726023124:=()
def tw10829991658840784255:=()
def tw12680090836301644564:=()
def tw16298758674443727938:=()
def tw7552674287449057125:=()
def tw9233548176902863504:=()
def tw5326831339940768964:=()
def tw11945976496128232850:=()
def tw8863466222108223018:=()
def tw2864098554724725152:=()
def tw14522736463093184732:=()
def tw11640644888875098069:=()
def tw12196943932716901623:=()
def tw16519339305727098163:=()
def tw11862978992626491669:=()
def tw5056587483477233200:=()
def tw18121526222214507590:=()
def tw8572744613735232563:=()
def tw10731991988975000488:=()
def tw6169888644277921402:=()
def tw10985847610175481865:=()
def tw18364731459652930183:=()
def tw12350696727764057801:=()
def tw16945906432375174603:=()
def tw1389522720126678739:=()
def tw5238532491685950889:=()
def tw15794286221104669122:=()
def tw16202079726546529294:=()
def tw11441341270090392316:=()
def tw15702859458418317668:=()
def tw7728423716867251343:=()
def tw7717761416531595549:=()
def tw3832677107333721375:=()
def tw12936890192976185460:=()
def tw15745756145818381270:=()
def tw14291829872278875320:=()
def tw775211965098033091:=()
def tw12977479611109935396:=()
def tw10172974372749266465:=()
def tw17551414785293340363:=()
def tw13673562907267910470:=()
def tw327580853254585748:=()
def tw1704173782522330140:=()
def tw16190687098897033290:=()
def tw18232729391522523566:=()
def tw17153128578853953226:=()
def tw5833841546294110277:=()
def tw3859987630498086167:=()
def tw1800245400579527803:=()
def tw16129310292677898533:=()
def tw4249727366948418317:=()
def tw16919651527277320307:=()
def tw9613286228534648655:=()
def tw18322520589873687619:=()
def tw4163418453680278129:=()
def tw13476838927234336220:=()
def tw6090275026051762122:=()
def tw14307846382708429028:=()
def tw797695385300952349:=()
def tw7325430193057501401:=()
def tw13654374580444600977:=()
def tw6441103606307986040:=()
def tw16204778022579580863:=()
def tw17290445885879881952:=()
def tw12281076559782248335:=()
def tw8550115158100129234:=()
def tw15137605880070997236:=()
def tw13531485785970866139:=()
def tw2036192828290942567:=()
def tw8300607020005760126:=()
def tw4240226204515399731:=()
def tw9879664685558470733:=()
def tw9629276202499136597:=()
def tw12201101321964539108:=()
def tw14002860948466054631:=()
def tw14395106155280335126:=()
def tw17889837819702016303:=()
def tw13296233993098185760:=()
def tw4454133059576162450:=()
def tw11962089766724911270:=()
def tw1521933933354909366:=()
def tw11637561843017367029:=()
def tw11725890558103683435:=()
def tw15816538689826322:=()
def tw17731236747200049963:=()
def tw13968371296673476881:=()
def tw18271906015218117883:=()
def tw15500914834574303757:=()
def tw16358701600955931468:=()
def tw17677962906492870938:=()
def tw3110695603149120371:=()
def tw1367128829785683710:=()
def tw8835966515144014383:=()
def tw17176160855054459809:=()
def tw8089279061676218859:=()
def tw1878099577885716347:=()
def tw18045527073238062501:=()
def tw4784879963001572776:=()
def tw17409982179958001101:=()
def tw16528341472669889782:=()
def tw2395725771299797309:=()
def tw4834274666051293931:=()
def tw17651477075010561930:=()
def tw6924711330241487967:=()
def tw7706562324646460849:=()
def tw4422652013011341932:=()
def tw2505053813551577816:=()
def tw8727332887963685684:=()
def tw10742180632494914249:=()
def tw16426789362797718786:=()
def tw4409013375936117852:=()
def tw4302623050471426377:=()
def tw17600556857461386126:=()
def tw17783761640887875897:=()
def tw6993298451109974378:=()
def tw11095698696215775187:=()
def tw16843088366795201134:=()
def tw1088926461637288724:=()
def tw16115426516471689235:=()
def tw12350932709660431404:=()
def tw1873549777858410249:=()
def tw16991313789466393222:=()
def tw4762602332880924997:=()
def tw2624294229816579599:=()
def tw13370057611813027744:=()
def tw14956759710205085537:=()
def tw17836495476490355188:=()
def tw9766442426819270932:=()
def tw11469190620332195134:=()
def tw10827354766096731147:=()
def tw15013030926257759079:=()
def tw17215217834821626171:=()
def tw2604623039050625626:=()
def tw9931303086608068928:=()
def tw14140788765640571374:=()
def tw791456184474548800:=()
def tw5635536497153362319:=()
def tw9568800895115982856:=()
def tw9347548218653382788:=()
def tw11419332798084532439:=()
def tw3071811801380484871:=()
def tw13284138716388735960:=()
def tw14503575055020183622:=()
def tw8615603388525143318:=()
def tw8828538507904365675:=()
def tw6381770249125462182:=()
def tw7583157151690431712:=()
def tw10782612571535090488:=()
def tw16323248078736733905:=()
def tw6540935009000826702:=()
def tw1130044223596197685:=()
def tw10273889742871669671:=()
def tw9753386236120145311:=()
def tw3764565910976602773:=()
def tw3896007070949323057:=()
def tw15243308595557559961:=()
def tw17224050904023423881:=()
def tw9307510433913522236:=()
def tw11556398402013339266:=()
def tw9798613870335001227:=()
def tw16556310000841227605:=()
def tw12128198788899222569:=()
def tw1621077460979722213:=()
def tw4403902048802742522:=()
def tw16276640899926653951:=()
def tw9783405728623007306:=()
def tw8429430708049136222:=()
def tw10621123041048095649:=()
def tw2730614913843400332:=()
def tw5589866986267369670:=()
def tw17031179446309892948:=()
def tw6990350221812036408:=()
def tw11706304814965176539:=()
def tw3648802083376044817:=()
def tw6026155629814899028:=()
def tw13889840162532065779:=()
def tw1124931786924542521:=()
def tw13006481201365946439:=()
def tw12298318803886041641:=()
def tw756731876927997690:=()
def tw5146394599884323191:=()
def tw12842531392292966934:=()
def tw18251884410054692407:=()
def tw9326150328961757093:=()
def tw4710633175480486020:=()
def tw11828161857851416417:=()
def tw13585702218542296644:=()
def tw18057370575397493067:=()
def tw18026026644802161297:=()
def tw5153862831220398997:=()
def tw5010722625990547949:=()
def tw11923815846116483991:=()
def tw862312952333991935:=()
def tw13017261850116670652:=()
def tw2019918256127616551:=()
def tw3494419217263172929:=()
def tw13557610147318379523:=()
def tw9956064641675414543:=()
def tw11349717114598162624:=()
def tw2371176784468405320:=()
def tw2872062032438000505:=()
def tw6032087012562828841:=()
def tw12946198675838646239:=()
def tw9328463614395459350:=()
def tw13715901919498014158:=()
def tw16205793439460982503:=()
def tw2769502907810539457:=()
def tw9345027562158635270:=()
def tw2400751812281263102:=()
def tw10240270299746262145:=()
def tw1553177155092090361:=()
def tw1173448258777668020:=()
def tw15271232054275282383:=()
def tw1547601736895020113:=()
def tw505132270274360900:=()
def tw6199905650430745728:=()
def tw16814744023919469546:=()
def tw18397792657027751310:=()
def tw15481073229651148185:=()
def tw11646026309317063756:=()
def tw1807145955353425380:=()
end PySem.W.Fast
open PySem PySem.W PyProof.Rows
open K48 (Vl aC n1 n2 n3 e1 e2 e3 qU ab5 ab6 Gb)
open L2 (lX Cg d9 bD fZ Eu)
set_option maxRecDepth 100000 in
set_option maxHeartbeats 0 in
theorem PySem.Challenge.cw_mirrorsums_k48_words_refused_holds : PySem.Challenge.rw_mirrorsums_k48_words_refused.Holds := by
 w_on;o_law;k_head;(case hw=>w_witness2)
 k_fill
 refine K48.walk (l:=PySem.Challenge.rw_mirrorsums_k48_words_refused) rfl rfl (λw h Y=>PySem.W.kIn_of Y) ?F
 case F=>
  intro w mg fa h KX G hmg
  refine' K48.fin hmg ⟨⟨yP KX G ?_,yP KX G ?_,yP KX G ?_,yP KX G ?_,yP KX G ?_,yP KX G ?_,yP KX G ?_,yP KX G ?_,yP KX G ?_,yP KX G ?_,yP KX G ?_,yP KX G ?_,yP KX G ?_,n2 KX G ?_,n2 KX G ?_,n2 KX G ?_,n2 KX G ?_,n3 KX G ?_,n3 KX G ?_⟩,Vl ⟨n1 KX G ?_,Cg ?l (bD ?d ?o) ?i⟩ ⟨n1 KX G ?_,d9 ?l1 (bD ?d1 ?o1) ?i1 ?l (bD ?d ?o) ?i⟩ ⟨n1 KX G ?_,d9 ?l2 (bD ?d2 ?o2) ?i2 ?l (bD ?d ?o) ?i⟩ ⟨n1 KX G ?_,d9 ?l3 (bD ?d3 ?o3) ?i3 ?l (bD ?d ?o) ?i⟩ ⟨n1 KX G ?_,d9 ?l4 (bD ?d4 ?o4) ?i4 ?l (bD ?d ?o) ?i⟩ ⟨n1 KX G ?_,d9 ?l5 (bD ?d5 ?o5) ?i5 ?l (bD ?d ?o) ?i⟩ ⟨n1 KX G ?_,d9 ?l6 (bD ?d6 ?o6) ?i6 ?l (bD ?d ?o) ?i⟩ ⟨n1 KX G ?_,d9 ?l7 (bD ?d7 ?o7) ?i7 ?l (bD ?d ?o) ?i⟩ ⟨d9 ?l7 (bD ?d7 ?o7) ?i7 ?l (bD ?d ?o) ?i,?_,?_,?_⟩ ⟨d9 ?l1 (bD ?d1 ?o1) ?i1 ?l (bD ?d ?o) ?i,?_,?_,?_⟩ ⟨d9 ?l3 (bD ?d3 ?o3) ?i3 ?l (bD ?d ?o) ?i,?_,?_,?_⟩ ⟨d9 ?l4 (bD ?d4 ?o4) ?i4 ?l (bD ?d ?o) ?i,?_,?_,?_⟩ ?_ ?_ ?_ ?_ (e3 ?_) (e3 ?_) (e3 ?_) (e3 ?_) (Eu (by kernel_rfl) ?_ (λz=>absurd (Value.type.inj z) (by decide))) (fZ ?k7 ?t7 ?_ (λz=>by cases z)) (fZ ?k1 ?t1 ?_ (λz=>by cases z)) (fZ ?k3 ?t3 ?_ (λz=>by cases z)) (fZ ?k4 ?t4 ?_ (λz=>by cases z)) (fZ ?k2 ?t2 ?_ (λz=>by cases z)) (fZ ?k6 ?t6 ?_ (λz=>by cases z)) (fZ ?k5 ?t5 ?_ (λz=>by cases z)) (e1 ?k7 ?t7 ?s7) (e2 ?k1 ?t1 ?s1 ?_) (e2 ?k3 ?t3 ?s3 ?_) (e2 ?k4 ?t4 ?s4 ?_) (e2 ?k2 ?t2 ?s2 ?_) (e2 ?k6 ?t6 ?s6 ?_) (e2 ?k5 ?t5 ?s5 ?_) (e2 ?k7 ?t7 ?s7 ?_) (e1 ?k1 ?t1 ?s1) (e2 ?k3 ?t3 ?s3 ?_) (e2 ?k4 ?t4 ?s4 ?_) (e2 ?k2 ?t2 ?s2 ?_) (e2 ?k6 ?t6 ?s6 ?_) (e2 ?k5 ?t5 ?s5 ?_) (e2 ?k7 ?t7 ?s7 ?_) (e2 ?k1 ?t1 ?s1 ?_) (e1 ?k3 ?t3 ?s3) (e2 ?k4 ?t4 ?s4 ?_) (e2 ?k2 ?t2 ?s2 ?_) (e2 ?k6 ?t6 ?s6 ?_) (e2 ?k5 ?t5 ?s5 ?_) (e2 ?k7 ?t7 ?s7 ?_) (e2 ?k1 ?t1 ?s1 ?_) (e2 ?k3 ?t3 ?s3 ?_) (e1 ?k4 ?t4 ?s4) (e2 ?k2 ?t2 ?s2 ?_) (e2 ?k6 ?t6 ?s6 ?_) (e2 ?k5 ?t5 ?s5 ?_),aC KX G ?_ ?_ ?_ ?_,aC KX G ?_ ?_ ?_ ?_,aC KX G ?_ ?_ ?_ ?_,aC KX G ?_ ?_ ?_ ?_,aC KX G ?_ ?_ ?_ ?_,aC KX G ?_ ?_ ?_ ?_,aC KX G ?_ ?_ ?_ ?_,aC KX G ?_ ?_ ?_ ?_,aC KX G ?_ ?_ ?_ ?_,aC KX G ?_ ?_ ?_ ?_,aC KX G ?_ ?_ ?_ ?_,aC KX G ?_ ?_ ?_ ?_,aC KX G ?_ ?_ ?_ ?_,aC KX G ?_ ?_ ?_ ?_,aC KX G ?_ ?_ ?_ ?_,aC KX G ?_ ?_ ?_ ?_,aC KX G ?_ ?_ ?_ ?_,aC KX G ?_ ?_ ?_ ?_,aC KX G ?_ ?_ ?_ ?_,aC KX G ?_ ?_ ?_ ?_,aC KX G ?_ ?_ ?_ ?_,aC KX G ?_ ?_ ?_ ?_,aC KX G ?_ ?_ ?_ ?_,aC KX G ?_ ?_ ?_ ?_,aC KX G ?_ ?_ ?_ ?_,aC KX G ?_ ?_ ?_ ?_,aC KX G ?_ ?_ ?_ ?_,aC KX G ?_ ?_ ?_ ?_,aC KX G ?_ ?_ ?_ ?_,aC KX G ?_ ?_ ?_ ?_,aC KX G ?_ ?_ ?_ ?_,aC KX G ?_ ?_ ?_ ?_,aC KX G ?_ ?_ ?_ ?_,aC KX G ?_ ?_ ?_ ?_,aC KX G ?_ ?_ ?_ ?_,aC KX G ?_ ?_ ?_ ?_,aC KX G ?_ ?_ ?_ ?_,aC KX G ?_ ?_ ?_ ?_,aC KX G ?_ ?_ ?_ ?_,aC KX G ?_ ?_ ?_ ?_,aC KX G ?_ ?_ ?_ ?_,aC KX G ?_ ?_ ?_ ?_,aC KX G ?_ ?_ ?_ ?_,aC KX G ?_ ?_ ?_ ?_,aC KX G ?_ ?_ ?_ ?_,aC KX G ?_ ?_ ?_ ?_,aC KX G ?_ ?_ ?_ ?_,aC KX G ?_ ?_ ?_ ?_,aC KX G ?_ ?_ ?_ ?_,aC KX G ?_ ?_ ?_ ?_,aC KX G ?_ ?_ ?_ ?_,aC KX G ?_ ?_ ?_ ?_,aC KX G ?_ ?_ ?_ ?_,aC KX G ?_ ?_ ?_ ?_,aC KX G ?_ ?_ ?_ ?_,aC KX G ?_ ?_ ?_ ?_,?aB,?tB,n1 KX G ?_,Gb ?lB ?oB ?rB,?bB,?aA,n1 KX G ?_,Gb ?lA ?oA ?rA,?cl,n1 KX G ?_,⟨?_,?_,?_,?_⟩,?cna,?fsay,⟨?_,?_,?_⟩,?fdsay,lX ?sl ?sc ?sk,(lX (st:=K48.Pa) ?sl ?sc ?sk).binds (λ_ _ _ _ _ _ us hl=>K48.ab4 us hl λ_ _=>rfl),?fini,⟨?_,?_,?_,?_⟩,?fdini,lX ?il ?ic ?ik,(lX (st:=K48.YG) ?il ?ic ?ik).binds (λ_ _ _ _ _ _ us hl=>K48.S8 us hl λ_=>rfl)⟩
  any_goals (show _=_;k_is)
  any_goals (show (_ == _)=_;decide)
  case rB=>exact .cons rfl rfl (.cons rfl rfl (.cons rfl rfl (.cons rfl rfl (.cons rfl rfl (.cons rfl rfl (.cons rfl rfl (.cons rfl rfl (.cons rfl rfl (.cons rfl rfl (.cons rfl rfl (.cons rfl rfl (.cons rfl rfl .nil))))))))))))
  case rA=>exact .cons rfl rfl (.cons rfl rfl (.cons rfl rfl (.cons rfl rfl (.cons rfl rfl (.cons rfl rfl (.cons rfl rfl (.cons rfl rfl (.cons rfl rfl (.cons rfl rfl (.cons rfl rfl (.cons rfl rfl .nil)))))))))))
  case bB=>(refine' .cons (qU ?_ ?_) (.cons (qU ?_ ?_) (.cons (qU ?_ ?_) (.cons (qU ?_ ?_) (.cons (qU ?_ ?_) (.cons (qU ?_ ?_) (.cons (qU ?_ ?_) (.cons (qU ?_ ?_) (.cons (qU ?_ ?_) (.cons (qU ?_ ?_) (.cons (qU ?_ ?_) (.cons (ab5 ?_ ?_ ?_) (.cons (ab6 ?_ ?_ ?_ ?_) .nil))))))))))))<;>(try first|k_is|rfl|decide))
  try (case cna=>(unfold L2.iC;k_is))
  all_goals first|rfl|k_is
