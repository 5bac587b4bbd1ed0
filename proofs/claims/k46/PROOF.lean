import PyProof.Rows.All
import Wide.All
import OpenK.AllK
import Wide.FinOn
import Lean
import PyProof.EqAt
import PyProof.EqKinds
import PyProof.TupleCall
import PyProof.ZipIter
import PyProof.Rows.ZipGen
import PyProof.DictCompW
import KE.KRevIter
import PyProof.StrCalls2
import PyProof.StrWalks
import PyProof.Rows.StrItems
import PyProof.StrLawsTight
import PyProof.Rows.SetFrom
import PyProof.CollectIter
import PyProof.FactsAll.set
import PyProof.StationsW
import PyProof.ExcClass3
import PyProof.RulesAs
import OpenK.KRaise
import PyProof.ExcBaseAll.ValueError
import OpenK.KOwn
import PyProof.NsDelKeeps
import PyProof.ExcArgsOwn
import PyProof.ExcAttrAll.ValueError
import PyProof.IsiBase
import KE.KIsAll
import PyProof.ExcNew
import PyProof.ExcFactsAll.ValueError
import PyProof.ListRange
import PyProof.ReprRoads
import PyProof.ReprLen
import PyProof.P3In
import PyProof.NeData
import PyProof.Rows.SortWalk
import PyProof.AutoRange
import PyProof.FactsAll.range_2
import PyProof.MeetsSeq
import PyProof.FactsAll.list_3
import PyProof.Rows.Range3
import PyProof.AttrMissHeap
import PyProof.FactsAll.enumerate_0
import PyProof.FactsAll.enumerate_1
import KE.KDictOf
import PyProof.DictRoadsH
import PyProof.MeetsDict
import PyProof.DictCalls
import PyProof.Rows.SortShell
import PyProof.StrBlockI
import PyProof.StrBlock2
import KE.KIntText
import PySem.Challenge.RW_mirrorsums_k46_texts_of_no_way
set_option Elab.async false
set_option linter.all false
set_option maxRecDepth 100000
namespace L2
open PySem PySem.Spec PyProof.Rows
abbrev Key:=Sum Int Str
def keyIs:Key->Value->Bool
 | .inl k,v=>Value.isInt k v
 | .inr x,v=>Value.isStrOf x v
def keyH (w:World):Key->Int
 | .inl k=>hashInt k
 | .inr x=>hashStr w x
theorem keyIs_shape:∀{k:Key} {v:Value},keyIs k v=true->(∃i t,k=Sum.inl i/\v=Value.int i t)\/(∃x t,k=Sum.inr x/\v=Value.str x t)
 | .inl i,v,h=>by
  obtain ⟨t,e⟩:=Value.isInt_shape (k:=i) (v:=v) h
  exact .inl ⟨i,t,rfl,e⟩
 | .inr x,v,h=>by
  obtain ⟨t,e⟩:=Value.isStrOf_shape (x:=x) (v:=v) h
  exact .inr ⟨x,t,rfl,e⟩
theorem key_ll (a b:Int):decide ((Sum.inl a:Key)=Sum.inl b)=(a == b):=by
 by_cases e:a=b
 ·subst e;simp
 ·have h:¬(Sum.inl a:Key)=Sum.inl b:=fun q=>e (Sum.inl.inj q)
  rw [decide_eq_false h]
  exact (beq_eq_false_iff_ne.mpr e).symm
theorem key_rr (a b:Str):decide ((Sum.inr a:Key)=Sum.inr b)=decide (a=b):=by
 by_cases e:a=b
 ·subst e;simp
 ·have h:¬(Sum.inr a:Key)=Sum.inr b:=fun q=>e (Sum.inr.inj q)
  rw [decide_eq_false h,decide_eq_false e]
theorem key_lr (a:Int) (b:Str):decide ((Sum.inl a:Key)=Sum.inr b)=false:=decide_eq_false (fun q=>nomatch q)
theorem key_rl (a:Str) (b:Int):decide ((Sum.inr a:Key)=Sum.inl b)=false:=decide_eq_false (fun q=>nomatch q)
def mixKind (prog:Program) (w:World):PySem.KeyKind prog w Key where
 is:=keyIs
 hash:=keyH w
 inj:=fun v a b ha hb=>by
  rcases keyIs_shape ha with ⟨i,t,rfl,rfl⟩|⟨x,t,rfl,rfl⟩
  ·rcases keyIs_shape hb with ⟨j,u,rfl,e⟩|⟨y,u,rfl,e⟩
   ·injection e with e1 _;rw [e1]
   ·exact nomatch e
  ·rcases keyIs_shape hb with ⟨j,u,rfl,e⟩|⟨y,u,rfl,e⟩
   ·exact nomatch e
   ·injection e with e1 _;rw [e1]
 byValue:=fun k v h=>by
  rcases keyIs_shape h with ⟨i,t,rfl,rfl⟩|⟨x,t,rfl,rfl⟩<;>rfl
 pyHash:=fun hv h=>by
  rcases keyIs_shape hv with ⟨i,t,rfl,rfl⟩|⟨x,t,rfl,rfl⟩
  ·exact wpAny_pyHash_int h
  ·exact wpAny_pyHash_str h
 eqBool:=fun hu hv h=>by
  rcases keyIs_shape hu with ⟨i,t,rfl,rfl⟩|⟨x,t,rfl,rfl⟩
  ·rcases keyIs_shape hv with ⟨j,u,rfl,rfl⟩|⟨y,u,rfl,rfl⟩
   ·rw [key_ll] at h;exact wpAny_eqBool_int h
   ·rw [key_lr] at h;exact SeqAt.EqAt.int_str i t y u _ _ _ _ h
  ·rcases keyIs_shape hv with ⟨j,u,rfl,rfl⟩|⟨y,u,rfl,rfl⟩
   ·rw [key_rl] at h;exact SeqAt.EqAt.str_int x t j u _ _ _ _ h
   ·rw [key_rr] at h;exact wpAny_eqBool_str h
 «strs»:=fun k x t v h=>by
  rcases keyIs_shape h with ⟨i,u,rfl,e⟩|⟨y,u,rfl,e⟩
  ·exact nomatch e
  ·injection e with e1 _
   subst e1
   cases v<;>rfl
inductive V where
 | non|bl (b:Bool)|int (i:Int)|str (x:Str)|byt (b:Array UInt8)|flt (b:UInt64)|ref (a:Addr)|ty (n:String)
 deriving DecidableEq
def RelV:V->Value->Prop
 | .non,u=>u=Value.none
 | .bl b,u=>u=Value.bool b
 | .int i,u=>∃t,u=Value.int i t
 | .str x,u=>∃t,u=Value.str x t
 | .byt b,u=>∃t,u=Value.bytes b t
 | .flt b,u=>∃t,u=Value.float b t
 | .ref a,u=>u=Value.ref a
 | .ty n,u=>u=Value.type n
abbrev Vals:List V->List Value->Prop:=Paired RelV
theorem Vals.length {xs:List V} {us:List Value} (r:Vals xs us):xs.length=us.length:=Paired.length r
theorem Vals.get:∀{xs:List V} {us:List Value} {i:Nat} {x:V},Vals xs us->xs[i]? = some x->∃u,us[i]? = some u/\RelV x u
 | _,_,_,_,.nil,e=>by simp at e
 | _,_,0,_,.cons r _,e=>by simp at e;subst e;exact ⟨_,rfl,r⟩
 | _,_,i+1,x,.cons _ t,e=>by
  obtain ⟨u,h1,h2⟩:=Vals.get (i:=i) (x:=x) t (by simpa using e)
  exact ⟨u,by simpa using h1,h2⟩
theorem Vals.set {x:V} {u:Value} (r:RelV x u):∀{xs:List V} {us:List Value} (i:Nat),Vals xs us->Vals (xs.set i x) (us.set i u)
 | _,_,_,.nil=>.nil
 | _,_,0,.cons _ t=>.cons r t
 | _,_,i+1,.cons q t=>.cons q (Vals.set r i t)
theorem Vals.append:∀{xs ys:List V} {us ws:List Value},Vals xs us->Vals ys ws->Vals (xs++ys) (us++ws)
 | _,_,_,_,.nil,s=>s
 | _,_,_,_,.cons r t,s=>.cons r (Vals.append t s)
theorem Vals.take:∀{xs:List V} {us:List Value} (n:Nat),Vals xs us->Vals (xs.take n) (us.take n)
 | _,_,0,_=>.nil
 | _,_,_+1,.nil=>.nil
 | _,_,n+1,.cons r t=>.cons r (Vals.take n t)
theorem Vals.drop:∀{xs:List V} {us:List Value} (n:Nat),Vals xs us->Vals (xs.drop n) (us.drop n)
 | _,_,0,r=>r
 | _,_,_+1,.nil=>.nil
 | _,_,n+1,.cons _ t=>Vals.drop n t
def RelO:Option V->Option Value->Prop
 | some v,some u=>RelV v u
 | none,none=>True
 | _,_=>False
def KV {κ:Type}:List (κ × V)->List (κ × Value)->Prop:=Paired fun (p:κ × V) (q:κ × Value)=>p.1=q.1/\RelV p.2 q.2
def kV:Key->V
 | .inl i=>.int i
 | .inr x=>.str x
inductive HO where
 /-- a list -/
 | lst (xs:List V)
 /-- a tuple (never changes) -/
 | tup (xs:List V)
 /-- a dict whose keys are ints and texts;one whose keys are tuples of ints and texts (the empty one is both) -/
 | dK (kvs:List (Key × V))|dT (kvs:List (List Key × V))
 /-- a set of ints: its members,its size -/
 | set (S:Int->Bool) (n:Nat)
 /-- an instance of the class at C,its dict at dx,its attributes -/
 | ins (C dx:Addr) (fs:List (Str × V))
 /-- the dict of the instance at x -/
 | own (x:Addr)
 /-- the dict of an exception -/
 | xd (fs:List (Str × V))
 /-- a bound method,f of x -/
 | met (f x:Addr)
 /-- a range object lo,lo+1,.. below hi -/
 | rng (lo hi:Int)
 /-- a thing that is known to the object (the script;a dict while a loop walks it): read,never written while it is so -/
 | frz (o:Obj) (u:HO)
 /-- a code object's table -/
 | tbl (ps:Array Value)
 /-- any other thing,by what is true of its one object (a def of one's own: SetO a S n:=HO.ext fun h=>..) -/
 | ext (φ:Heap->Prop)
abbrev Hp:=Addr->Option HO
def upd (H:Hp) (a:Addr) (o:HO):Hp:=fun b=>if b=a then some o else H b
theorem upd_same {H:Hp} {a:Addr} {o:HO}:upd H a o a=some o:=by unfold upd;rw [if_pos rfl]
theorem upd_ne {H:Hp} {a b:Addr} {o:HO} (h:b≠a):upd H a o b=H b:=by unfold upd;rw [if_neg h]
theorem ne_of_none {H:Hp} {a b:Addr} {o:HO} (h:H a=some o) (h':H b=none):a≠b:=by
 intro e;subst e;rw [h] at h';cases h'
section
variable (P:Program) (w:World)
def ObjOk (H:Hp) (h:Heap) (a:Addr):HO->Prop
 | .lst xs=>xs.length<=sizeLine/\∃(its:List Value) (n:Nat),Vals xs its/\h.get? a=some { cls:=.type "list",data:=.seq its.toArray n }
 | .tup xs=>xs.length<=sizeLine/\∃its:List Value,Vals xs its/\IsTup h a its.toArray
 | .dK kvs=>kvs.length<=sizeLine/\(a == sysModules)=false/\∃vs,KV kvs vs/\h.DictOf (mixKind P w) a vs
 | .dT kvs=>kvs.length<=sizeLine/\(a == sysModules)=false/\∃xs:List (List Key × Addr × Value),
   Paired (fun (p:List Key × V) (q:List Key × Addr × Value)=>p.1=q.1/\H q.2.1=some (.tup (p.1.map kV))/\RelV p.2 q.2.2) kvs xs /\
   ∃o es ep,h.get? a=some o/\o.ExactDict/\o.data=.dict es ep/\es.toList=xs.map (entryOfKey (tupleKind (mixKind P w)))/\(xs.map (·.1)).Nodup
 | .set S n=>h.SetOf (intKind P w) a S n
 | .ins C dx fs=>H dx=some (.own a)/\fs.length<=1000/\dx≠a/\h.get? a=some (PySem.W.instObj C dx) /\
   ∃mA,h.Ns1 dx mA/\(∀f,RelO (fs.lookup f) (mA f))/\PySem.Within mA (fs.map (·.1))
 | .own _=>∃o,h.get? a=some o
 | .xd fs=>∃mA,h.Ns1 a mA/\∀f,RelO (fs.lookup f) (mA f)
 | .rng lo hi=>∃t u v,h.get? a=some { cls:=.type "range",data:=.fields #[.int lo t,.int hi u,.int 1 v] }
 | .frz o u=>h.get? a=some o/\ObjOk H h a u
 | .tbl ps=>h.get? a=some { cls:=.none,data:=.fields ps }
 | .met f x=>h.get? a=some (PySem.W.methodObj (.ref f) (.ref x))
 | .ext φ=>φ h/\(∃o,h.get? a=some o)/\∀h1 h2:Heap,φ h1->(∀o,h1.get? a=some o->h2.get? a=some o)->φ h2
def HOk (H:Hp) (h:Heap):Prop:=∀a o,H a=some o->ObjOk P w H h a o
end
section
variable {P:Program} {w:World} {H H':Hp} {h h':Heap} {a:Addr} {o:HO}
theorem ObjOk.lt (x:ObjOk P w H h a o):a<h.objs.size:=by
 cases o with
 | lst xs=>obtain ⟨_,_,_,_,e⟩:=x;exact Heap.lt_size e
 | tup xs=>obtain ⟨_,_,_,p⟩:=x;exact p.lt
 | dK kvs=>obtain ⟨_,_,_,_,o,_,_,e,_⟩:=x;exact Heap.lt_size e
 | dT kvs=>obtain ⟨_,_,_,_,o,_,_,e,_⟩:=x;exact Heap.lt_size e
 | set S n=>obtain ⟨o,_,_,_,e,_⟩:=x;exact Heap.lt_size e
 | ins C dx fs=>obtain ⟨_,_,_,e,_⟩:=x;exact Heap.lt_size e
 | own y=>obtain ⟨_,e⟩:=x;exact Heap.lt_size e
 | xd fs=>obtain ⟨_,⟨_,_,_,e,_⟩,_⟩:=x;exact Heap.lt_size e
 | rng lo hi=>obtain ⟨_,_,_,e⟩:=x;exact Heap.lt_size e
 | frz ob u=>obtain ⟨e,_⟩:=x;exact Heap.lt_size e
 | tbl ps=>exact Heap.lt_size (show h.get? a=some _ from x)
 | met f y=>exact Heap.lt_size (show h.get? a=some _ from x)
 | ext φ=>obtain ⟨_,⟨_,e⟩,_⟩:=x;exact Heap.lt_size e
theorem Paired.mapP {α β:Type} {F G:α->β->Prop}:∀{l₁:List α} {l₂:List β},Paired F l₁ l₂->(∀a b,F a b->G a b)->Paired G l₁ l₂
 | _,_,.nil,_=>.nil
 | _,_,.cons r t,f=>.cons (f _ _ r) (Paired.mapP t f)
theorem ObjOk.stay (x:ObjOk P w H h a o) (k:∀b u,(b=a\/H b=some (.own a))->h.get? b=some u->h'.get? b=some u)
  (ho:∀b,H b=some (.own a)->H' b=some (.own a)) (ht:∀b xs,H b=some (.tup xs)->H' b=some (.tup xs)):ObjOk P w H' h' a o:=by
 induction o with
 | lst xs=>obtain ⟨z,its,n,r,e⟩:=x;exact ⟨z,its,n,r,k _ _ (.inl rfl) e⟩
 | tup xs=>obtain ⟨z,its,r,ob,e,c⟩:=x;exact ⟨z,its,r,ob,k _ _ (.inl rfl) e,c⟩
 | dK kvs=>obtain ⟨z,y,vs,r,ob,es,ep,e,c⟩:=x;exact ⟨z,y,vs,r,ob,es,ep,k _ _ (.inl rfl) e,c⟩
 | dT kvs=>
  obtain ⟨z,y,xs,r,ob,es,ep,e,c⟩:=x
  exact ⟨z,y,xs,Paired.mapP r fun p q z=>⟨z.1,ht _ _ z.2.1,z.2.2⟩,ob,es,ep,k _ _ (.inl rfl) e,c⟩
 | set S n=>obtain ⟨ob,es,ep,t,e,c⟩:=x;exact ⟨ob,es,ep,t,k _ _ (.inl rfl) e,c⟩
 | ins C dx fs=>
  obtain ⟨d,z,ne,e,mA,⟨od,es,ep,e2,c⟩,r⟩:=x
  exact ⟨ho _ d,z,ne,k _ _ (.inl rfl) e,mA,⟨od,es,ep,k _ _ (.inr d) e2,c⟩,r⟩
 | own y=>obtain ⟨ob,e⟩:=x;exact ⟨ob,k _ _ (.inl rfl) e⟩
 | xd fs=>obtain ⟨mA,⟨od,es,ep,e,c⟩,r⟩:=x;exact ⟨mA,⟨od,es,ep,k _ _ (.inl rfl) e,c⟩,r⟩
 | rng lo hi=>obtain ⟨t,u,v,e⟩:=x;exact ⟨t,u,v,k _ _ (.inl rfl) e⟩
 | frz ob u ih=>obtain ⟨e,q⟩:=x;exact ⟨k _ _ (.inl rfl) e,ih q⟩
 | tbl ps=>
  have e:h.get? a=some { cls:=.none,data:=.fields ps }:=x
  show h'.get? a=some { cls:=.none,data:=.fields ps }
  exact k a _ (.inl rfl) e
 | met f y=>
  have e:h.get? a=some (PySem.W.methodObj (.ref f) (.ref y)):=x
  show h'.get? a=some (PySem.W.methodObj (.ref f) (.ref y))
  exact k a _ (.inl rfl) e
 | ext φ=>obtain ⟨p,⟨o,e⟩,st⟩:=x;exact ⟨st _ _ p fun o q=>k _ _ (.inl rfl) q,⟨o,k _ _ (.inl rfl) e⟩,st⟩
theorem HOk.lt (x:HOk P w H h) (e:H a=some o):a<h.objs.size:=(x a o e).lt
theorem HOk.fresh (x:HOk P w H h) (e:h.objs.size<=a):H a=none:=by
 cases q:H a with
 | none=>rfl
 | some u=>exact absurd (Nat.lt_of_lt_of_le (x.lt q) e) (Nat.lt_irrefl _)
theorem HOk.kept (x:HOk P w H h) (k:∀b u,h.get? b=some u->h'.get? b=some u):HOk P w H h':=fun a o e=>
 (x a o e).stay (fun b u _ q=>k b u q) (fun _ q=>q) fun _ _ q=>q
theorem HOk.laid (x:HOk P w H h) (k:∀b u,h.get? b=some u->h'.get? b=some u) (hp:h.objs.size<=a) (new:ObjOk P w (upd H a o) h' a o):HOk P w (upd H a o) h':=fun b u e=>by
 have hn:=x.fresh hp
 by_cases hb:b=a
 ·subst hb;rw [upd_same] at e;cases e;exact new
 ·rw [upd_ne hb] at e
  exact (x b u e).stay (fun c v _ q=>k c v q) (fun c q=>by rw [upd_ne (ne_of_none q hn)];exact q) fun c xs q=>by rw [upd_ne (ne_of_none q hn)];exact q
end
def Rd (H:Hp) (a:Addr) (u:HO):Prop:=H a=some u\/∃o,H a=some (.frz o u)
theorem Rd.ok {P:Program} {w:World} {H:Hp} {h:Heap} {a:Addr} {u:HO} (r:Rd H a u) (x:HOk P w H h):ObjOk P w H h a u:=by
 rcases r with r|⟨o,r⟩
 ·exact x a u r
 ·obtain ⟨_,q⟩:=x a _ r
  exact q
def Mut:Option HO->Prop
 | some (.lst _)=>True
 | some (.dK _)=>True
 | some (.dT _)=>True
 | some (.set _ _)=>True
 | some (.ins _ _ _)=>True
 | some (.ext _)=>True
 | _=>False
section
variable {P:Program} {w:World} {H:Hp} {h h':Heap} {x e:Addr} {o':HO}
theorem HOk.write (ok:HOk P w H h) (mu:Mut (H x)) (he:e=x\/H e=some (.own x)) (k:∀b u,b≠e->h.get? b=some u->h'.get? b=some u) (heo:∃u,h'.get? e=some u)
  (new:ObjOk P w (upd H x o') h' x o'):HOk P w (upd H x o') h':=fun b u q=>by
 have nown:∀c y,H c=some (.own y)->c≠x:=fun c y r z=>by subst z;rw [r] at mu;exact mu
 have ntup:∀c xs,H c=some (.tup xs)->c≠x:=fun c xs r z=>by subst z;rw [r] at mu;exact mu
 by_cases hb:b=x
 ·subst hb;rw [upd_same] at q;cases q;exact new
 ·rw [upd_ne hb] at q
  by_cases hbe:b=e
  ·have q':H b=some (.own x):=by
    rcases he with z|z
    ·exact absurd (hbe.trans z) hb
    ·rw [hbe];exact z
   rw [q] at q';cases q'
   obtain ⟨v,hv⟩:=heo
   exact ⟨v,by rw [hbe];exact hv⟩
  ·refine (ok b u q).stay (fun c v hc r=>k c v ?_ r) (fun c r=>by rw [upd_ne (nown c b r)];exact r) fun c xs r=>by rw [upd_ne (ntup c xs r)];exact r
   rcases hc with rfl|hc
   ·exact hbe
   ·rintro rfl
    rcases he with z|z
    ·exact nown c b hc z
    ·rw [hc] at z;cases z;exact hb rfl
end
structure Un (fs ex:List Addr) (H H':Hp) (h h':Heap):Prop where
 keep:∀b o,h.get? b=some o->H b=none->b ∉ fs->b ∉ ex->h'.get? b=some o
 slot:∀b o,h.get? b=some o->H b=none->b∈fs->b ∉ ex->∃sl,h'.get? b=some { o with slots:=sl }
 free:∀b o,h.get? b=some o->H b=none->b ∉ ex->H' b=none
 there:∀b o,h.get? b=some o->b ∉ ex->∃o',h'.get? b=some o'
 tups:∀b xs,H b=some (.tup xs)->H' b=some (.tup xs)
 frzs:∀b o u,H b=some (.frz o u)->H' b=some (.frz o u)
 tbls:∀b ps,H b=some (.tbl ps)->∃more,H' b=some (.tbl (ps++more))
section
variable {fs fs' ex ex':List Addr} {H H1 H2:Hp} {h h1 h2 h':Heap} {a x e:Addr} {o:HO}
theorem Un.any (u:Un fs ex H H1 h h1) {b:Addr} {ob:Obj} (q:h.get? b=some ob) (n:H b=none) (hx:b ∉ ex):∃sl,h1.get? b=some { ob with slots:=sl }:=by
 by_cases hb:b∈fs
 ·exact u.slot b ob q n hb hx
 ·exact ⟨ob.slots,u.keep b ob q n hb hx⟩
theorem Un.kept (k:∀b u,h.get? b=some u->h'.get? b=some u):Un fs ex H H h h':=
 ⟨fun b ob q _ _ _=>k b ob q,fun b ob q _ _ _=>⟨ob.slots,k b ob q⟩,fun _ _ _ n _=>n,fun b ob q _=>⟨ob,k b ob q⟩,fun _ _ q=>q,fun _ _ _ q=>q,fun _ ps q=>⟨#[],by rw [q];simp⟩⟩
theorem Un.refl:Un fs ex H H h h:=Un.kept fun _ _ q=>q
theorem Un.laid (k:∀b u,h.get? b=some u->h'.get? b=some u) (hp:h.objs.size<=a) (hn:H a=none):Un fs ex H (upd H a o) h h' where
 keep:=fun b u q _ _ _=>k b u q
 slot:=fun b u q _ _ _=>⟨u.slots,k b u q⟩
 free:=fun b u q n _=>by rw [upd_ne (Nat.ne_of_lt (Nat.lt_of_lt_of_le (Heap.lt_size q) hp))];exact n
 there:=fun b u q _=>⟨u,k b u q⟩
 tups:=fun b xs q=>by rw [upd_ne (ne_of_none q hn)];exact q
 frzs:=fun b u xs q=>by rw [upd_ne (ne_of_none q hn)];exact q
 tbls:=fun b ps q=>⟨#[],by rw [upd_ne (ne_of_none q hn),q];simp⟩
theorem Un.write (mu:Mut (H x)) (he:e=x\/H e=some (.own x)) (k:∀b u,b≠e->h.get? b=some u->h'.get? b=some u) (heo:∃u,h'.get? e=some u):Un fs ex H (upd H x o) h h':=by
 have hx:∀b,H b=none->b≠x:=fun b n z=>by subst z;rw [n] at mu;exact mu
 have hb:∀b,H b=none->b≠e:=fun b n z=>by
  subst z
  rcases he with r|r
  ·exact hx b n r
  ·rw [n] at r;cases r
 have hm:∀b u,H b=some u->¬Mut (some u)->b≠x:=fun b u q nm z=>by subst z;rw [q] at mu;exact nm mu
 refine ⟨fun b u q n _ _=>k b u (hb b n) q,fun b u q n _ _=>⟨u.slots,k b u (hb b n) q⟩,fun b u q n _=>by rw [upd_ne (hx b n)];exact n,fun b u q _=>?_,
  fun b xs q=>by rw [upd_ne (hm b _ q fun z=>z)];exact q,fun b u xs q=>by rw [upd_ne (hm b _ q fun z=>z)];exact q,fun b ps q=>⟨#[],by rw [upd_ne (hm b _ q fun z=>z),q];simp⟩⟩
 by_cases hbe:b=e
 ·subst hbe;exact heo
 ·exact ⟨u,k b u hbe q⟩
end
def trk (h:Heap) (H:Hp):List Addr:=(List.range h.objs.size).filter fun a=>(H a).isSome
def hidT (h:Heap) (H:Hp):Heap:=PySem.W.hideAll h (trk h H)
theorem hidT_size (h:Heap) (H:Hp):(hidT h H).objs.size=h.objs.size:=PySem.W.hideAll_size _ _
theorem hidT_get {h:Heap} {H:Hp} {b:Addr} {o:Obj} (e:h.get? b=some o) (n:H b=none):(hidT h H).get? b=some o:=
 PySem.W.hideAll_get _ e fun hm=>by
  have q:(H b).isSome=true:=(List.mem_filter.mp hm).2
  rw [n] at q;simp at q
theorem of_hidT {h:Heap} {H:Hp} {b:Addr} {o:Obj} (e:(hidT h H).get? b=some o):h.get? b=some o/\H b=none:=by
 have e':h.get? b=some o:=PySem.W.of_hideAll (trk h H) e
 refine ⟨e',?_⟩
 cases q:H b with
 | none=>rfl
 | some x=>
  have hm:b∈trk h H:=List.mem_filter.mpr ⟨List.mem_range.mpr (Heap.lt_size e'),by simp [q]⟩
  have z:(hidT h H).get? b=none:=PySem.W.hideAll_none (trk h H) hm
  rw [z] at e;cases e
def allNews (g h:Heap) (L:Addr):List (Addr × Obj):=(List.range h.objs.size).filterMap fun a=>if a=L\/(g.get? a).isSome=true then none else (h.get? a).map fun o=>(a,o)
def rest (g h:Heap) (L d:Addr):List (Addr × Obj):=(allNews g h L).filter fun p=>decide (p.1≠d)
structure Mod (K:PySem.W.Frag) (mg:Str->Option Value) (base:Heap):Prop where
 kin:K.In base
 glob:base.Ns mainGlobals mg
 blt:∃mb,base.Ns builtinsNs mb/\∀x:Str,x≠"__name__"->mb x=bootBuiltins x
 nolimit:base.NoLimit
structure Cx where
 prog:Program
 w:World
 K:PySem.W.Frag
 mg:Str->Option Value
 base:Heap
 A:Around
 N:List Str
 s₀:Shared
 H₀:Hp
 env:Env
 outer:List Env
 stack:List Env
 ex:List Addr
 fn:Str->Bool
 calm:Bool
 pn:List (Addr × Obj)
 xe:Value->Shared->Prop
def frs (l:List Env):List Addr:=l.filterMap (·.frame)
abbrev Cx.fs (X:Cx):List Addr:=frs X.outer
def Vis (sc:Scope) (x:Str):Prop:=sc.names.lookup x=some .local\/sc.names.lookup x=some .cell\/sc.names.lookup x=some .free
def Loc (sc:Scope) (x:Str):Prop:=sc.names.lookup x=some .local\/sc.names.lookup x=some .cell
def Look (env:Env) (h:Heap) (m:Str->Option Value) (x:Str) (u:Value):Prop:=
 (env.kindOf x=some .local/\m x=some u)\/((env.kindOf x=some .cell\/env.kindOf x=some .free)/\∃c,env.cells.lookup x=some c/\h.IsCell c (some u))
structure Cx.Ok (X:Cx):Prop where
 mod:Mod X.K X.mg X.base
 kind:X.env.scope.kind=.function
 glob:X.env.globals=mainGlobals
 blt:X.env.builtins=builtinsNs
 above:X.s₀.heap.objs.size<=X.env.locals
 inj:∀x y c,X.env.cells.lookup x=some c->X.env.cells.lookup y=some c->x=y
 has:∀x,(X.env.kindOf x=some .cell\/X.env.kindOf x=some .free)->∃c,X.env.cells.lookup x=some c
 cab:∀x c,X.fn x=true->X.env.cells.lookup x=some c->X.s₀.heap.objs.size<=c
 hd:X.calm=true->X.A.handled=none
 frames:X.A.frames=some X.stack
 stk:X.stack=X.outer\/(X.stack=X.env::X.outer/\X.env.frame=some X.env.locals)
 exf:∀b∈X.ex,b≠X.env.locals/\∀x c,X.env.cells.lookup x=some c->c≠b
 bs:∀b o,X.base.get? b=some o->X.s₀.heap.get? b=some o/\X.H₀ b=none
 bsz:X.base.objs.size<=X.s₀.heap.objs.size
 noex:∀b o,X.base.get? b=some o->b ∉ X.ex
 exfs:∀b∈X.ex,b ∉ X.fs
 funs:X.s₀.heap.FunFrames X.base X.outer
 frf:∀b∈X.fs,X.H₀ b=none
structure Inv (X:Cx) (pins:List (Addr × Obj)) (σ:List (Option V)) (H:Hp) (s:Shared):Prop where
 ok:X.Ok
 os:s.os=X.s₀.os
 bare:AllBare s.gens
 base:Un X.fs X.ex X.H₀ H X.s₀.heap s.heap
 loc:∃m,s.heap.Ns X.env.locals m/\∀(i:Nat) (x:Str) (v:V),X.N[i]? = some x->σ[i]? = some (some v)->Vis X.env.scope x->∃u,RelV v u/\Look X.env s.heap m x u
 cell:∀x c,X.env.cells.lookup x=some c->∃v,s.heap.IsCell c v
 free:H X.env.locals=none
 freeC:∀x c,X.env.cells.lookup x=some c->H c=none
 pin:∀p∈X.pn++pins,s.heap.get? p.1=some p.2/\H p.1=none/\p.1≠X.env.locals/\p.1 ∉ X.fs/\∀v,p.2.data≠.cell v
 hok:HOk X.prog X.w H s.heap
 len:σ.length=X.N.length
section
variable {X:Cx} {pins:List (Addr × Obj)} {σ:List (Option V)} {H H':Hp} {s:Shared} {h':Heap}
theorem Cx.Ok.nofr (ok:X.Ok) {b:Addr} {o:Obj} (e:X.base.get? b=some o):b ∉ X.fs:=fun hb=>by
 have:=(ok.funs.mem hb).1
 rw [e] at this;cases this
theorem Inv.bs (I:Inv X pins σ H s):∀b o,X.base.get? b=some o->s.heap.get? b=some o/\H b=none:=fun b o e=>
 ⟨I.base.keep b o (I.ok.bs b o e).1 (I.ok.bs b o e).2 (I.ok.nofr e) (I.ok.noex b o e),I.base.free b o (I.ok.bs b o e).1 (I.ok.bs b o e).2 (I.ok.noex b o e)⟩
theorem Inv.bk (I:Inv X pins σ H s):∀b o,X.base.get? b=some o->s.heap.get? b=some o:=fun b o e=>(I.bs b o e).1
theorem Inv.mod (I:Inv X pins σ H s):Mod X.K X.mg X.base:=I.ok.mod
theorem Inv.kIn (I:Inv X pins σ H s):X.K.In s.heap:=I.ok.mod.kin.keeps I.bk
theorem Inv.lt (I:Inv X pins σ H s):X.env.locals<s.heap.objs.size:=let ⟨_,hn,_⟩:=I.loc;hn.lt
theorem Inv.sz (I:Inv X pins σ H s):X.s₀.heap.objs.size<=s.heap.objs.size:=Nat.le_trans I.ok.above (Nat.le_of_lt I.lt)
theorem Inv.nofs (I:Inv X pins σ H s) {a:Addr} (h:s.heap.objs.size<=a):a ∉ X.fs:=fun hb=>by
 obtain ⟨_,o,ho,_⟩:=I.ok.funs.mem hb
 exact absurd (Nat.lt_of_lt_of_le (Heap.lt_size ho) (Nat.le_trans I.sz h)) (Nat.lt_irrefl _)
theorem Inv.cne (I:Inv X pins σ H s):∀x c,X.env.cells.lookup x=some c->c≠X.env.locals:=fun x c e z=>by
 obtain ⟨v,o,ho,hd⟩:=I.cell x c e
 obtain ⟨m,⟨o',es,ep,ho',hd',_⟩,_⟩:=I.loc
 rw [z,ho'] at ho;cases ho;rw [hd'] at hd;cases hd
theorem Inv.funs (I:Inv X pins σ H s):s.heap.FunFrames X.base X.outer:=by
 have all:∀(l:List Env),(∀b∈frs l,b∈X.fs)->X.s₀.heap.FunFrames X.base l->s.heap.FunFrames X.base l:=by
  intro l
  induction l with
  | nil=>intro _ _;trivial
  | cons env r ih=>
   intro hs hl
   obtain ⟨hk,⟨L,o,hf,hn,ho,hd⟩,hr⟩:=hl
   have hL:L∈X.fs:=hs L (by unfold frs;rw [List.filterMap_cons,hf];exact List.mem_cons_self)
   obtain ⟨sl,e⟩:=I.base.slot L o ho (I.ok.frf L hL) hL fun z=>I.ok.exfs L z hL
   exact ⟨hk,⟨L,_,hf,hn,e,hd⟩,ih (fun b hb=>hs b (by unfold frs;rw [List.filterMap_cons,hf];exact List.mem_cons_of_mem _ hb)) hr⟩
 exact all X.outer (fun _ hb=>hb) I.ok.funs
theorem Inv.stack (I:Inv X pins σ H s):s.heap.FunFrames X.base X.stack:=by
 rcases I.ok.stk with e|⟨e,hf⟩
 ·rw [e];exact I.funs
 ·rw [e]
  obtain ⟨m,hn,_⟩:=I.loc
  refine .cons (by rw [I.ok.kind];decide) hf hn ?_ I.funs
  exact Heap.get?_none_of_le (Nat.le_trans I.ok.bsz I.ok.above)
theorem Inv.stkSub (I:Inv X pins σ H s):∀b∈frs X.stack,b∈X.env.locals::X.fs:=fun b hb=>by
 rcases I.ok.stk with e|⟨e,hf⟩
 ·rw [e] at hb;exact List.mem_cons_of_mem _ hb
 ·rw [e] at hb
  unfold frs at hb
  rw [List.filterMap_cons,hf] at hb
  exact hb
theorem Inv.stkFree (I:Inv X pins σ H s):∀b∈frs X.stack,H b=none:=fun b hb=>by
 rcases List.mem_cons.mp (I.stkSub b hb) with e|hb
 ·rw [e];exact I.free
 ·obtain ⟨_,o,ho,_⟩:=I.ok.funs.mem hb
  exact I.base.free b o ho (I.ok.frf b hb) fun z=>I.ok.exfs b z hb
theorem Inv.step {g':Array GenState} {t':Nat} {d':Drawn} {ch:List Addr} (I:Inv X pins σ H s)
  (hch:∀b∈ch,(b∈X.ex\/X.s₀.heap.objs.size<=b)/\b≠X.env.locals/\(∀x c,X.env.cells.lookup x=some c->c≠b)/\∀p∈X.pn++pins,p.1≠b)
  (keep:∀b o,b≠X.env.locals->b ∉ X.fs->b ∉ ch->s.heap.get? b=some o->H b=none->h'.get? b=some o)
  (slot:∀b o,b≠X.env.locals->b∈X.fs->b ∉ ch->s.heap.get? b=some o->H b=none->∃sl,h'.get? b=some { o with slots:=sl }) (free:∀b o,b ∉ ch->s.heap.get? b=some o->H b=none->H' b=none)
  (there:∀b o,b ∉ ch->s.heap.get? b=some o->∃o',h'.get? b=some o')
  (tups:∀b xs,H b=some (.tup xs)->H' b=some (.tup xs)) (frzs:∀b o u,H b=some (.frz o u)->H' b=some (.frz o u)) (tbls:∀b ps,H b=some (.tbl ps)->∃more,H' b=some (.tbl (ps++more)))
  (ns:∀m,s.heap.Ns X.env.locals m->h'.Ns X.env.locals m) (hok:HOk X.prog X.w H' h') (hg:AllBare g') :
  Inv X pins σ H' { s with heap:=h',gens:=g',drawn:=d',toks:=t' }:=by
 have neL:∀b o,X.s₀.heap.get? b=some o->b≠X.env.locals:=fun b o e=>Nat.ne_of_lt (Nat.lt_of_lt_of_le (Heap.lt_size e) I.ok.above)
 have neC:∀b o,X.s₀.heap.get? b=some o->b ∉ X.ex->b ∉ ch:=fun b o e hx hb=>by
  rcases (hch b hb).1 with z|z
  ·exact hx z
  ·exact absurd (Nat.lt_of_lt_of_le (Heap.lt_size e) z) (Nat.lt_irrefl _)
 have cellK:∀x c,X.env.cells.lookup x=some c->∀v,s.heap.IsCell c v->h'.IsCell c v:=fun x c e v ⟨o,ho,hd⟩=>by
  have nch:c ∉ ch:=fun z=>(hch c z).2.2.1 x c e rfl
  by_cases hc:c∈X.fs
  ·obtain ⟨sl,q⟩:=slot c o (I.cne x c e) hc nch ho (I.freeC x c e)
   exact ⟨_,q,hd⟩
  ·exact ⟨o,keep c o (I.cne x c e) hc nch ho (I.freeC x c e),hd⟩
 refine ⟨I.ok,I.os,hg,⟨fun b o e n hb hx=>?_,fun b o e n hb hx=>?_,fun b o e n hx=>?_,fun b o e hx=>?_,fun b xs e=>tups b xs (I.base.tups b xs e),fun b o xs e=>frzs b o xs (I.base.frzs b o xs e),fun b ps e=>?_⟩,?_,fun x c e=>?_,?_,fun x c e=>?_,fun p hp=>?_,hok,I.len⟩
 ·exact keep b o (neL b o e) hb (neC b o e hx) (I.base.keep b o e n hb hx) (I.base.free b o e n hx)
 ·obtain ⟨sl,e1⟩:=I.base.slot b o e n hb hx
  obtain ⟨sl',e2⟩:=slot b _ (neL b o e) hb (neC b o e hx) e1 (I.base.free b o e n hx)
  exact ⟨sl',e2⟩
 ·obtain ⟨o',e1⟩:=I.base.there b o e hx
  exact free b o' (neC b o e hx) e1 (I.base.free b o e n hx)
 ·obtain ⟨o',e1⟩:=I.base.there b o e hx
  exact there b o' (neC b o e hx) e1
 ·obtain ⟨m1,e1⟩:=I.base.tbls b ps e
  obtain ⟨m2,e2⟩:=tbls b _ e1
  exact ⟨m1++m2,by rw [e2,Array.append_assoc]⟩
 ·obtain ⟨m,hn,hl⟩:=I.loc
  refine ⟨m,ns m hn,fun i x v e1 e2 e3=>?_⟩
  obtain ⟨u,r,l⟩:=hl i x v e1 e2 e3
  refine ⟨u,r,?_⟩
  rcases l with l|⟨k,c,e,z⟩
  ·exact .inl l
  ·exact .inr ⟨k,c,e,cellK x c e _ z⟩
 ·obtain ⟨v,z⟩:=I.cell x c e
  exact ⟨v,cellK x c e v z⟩
 ·obtain ⟨m,⟨o,_,_,ho,_⟩,_⟩:=I.loc
  exact free _ o (fun z=>(hch _ z).2.1 rfl) ho I.free
 ·obtain ⟨v,o,ho,hd⟩:=I.cell x c e
  exact free c o (fun z=>(hch c z).2.2.1 x c e rfl) ho (I.freeC x c e)
 ·obtain ⟨e,n,ne,nf,d⟩:=I.pin p hp
  have nch:p.1 ∉ ch:=fun z=>(hch p.1 z).2.2.2 p hp rfl
  exact ⟨keep p.1 p.2 ne nf nch e n,free p.1 p.2 nch e n,ne,nf,d⟩
theorem Inv.un {t':Nat} (I:Inv X pins σ H s) (u:Un X.fs [] H H' s.heap h') (hok:HOk X.prog X.w H' h'):Inv X pins σ H' { s with heap:=h',toks:=t' }:=by
 obtain ⟨m,⟨o,es,ep,ho,r⟩,_⟩:=id I.loc
 obtain ⟨sl,hL⟩:=u.any ho I.free (by simp)
 exact I.step (g':=s.gens) (d':=s.drawn) (ch:=[]) (fun _ z=>nomatch z) (fun b o _ hb _ e n=>u.keep b o e n hb (by simp)) (fun b o _ hb _ e n=>u.slot b o e n hb (by simp)) (fun b o _ e n=>u.free b o e n (by simp)) (fun b o _ e=>u.there b o e (by simp)) u.tups u.frzs u.tbls (fun m' hm=>by
  obtain ⟨o',es',ep',ho',r'⟩:=hm
  rw [ho] at ho';cases ho'
  exact ⟨_,es',ep',hL,r'⟩) hok I.bare
theorem Inv.call {g':Array GenState} {t':Nat} {d':Drawn} {ch:List Addr} (I:Inv X pins σ H s) (u:Un (frs X.stack) ch H H' s.heap h') (hok:HOk X.prog X.w H' h') (hg:AllBare g')
  (hch:∀b∈ch,(b∈X.ex\/X.s₀.heap.objs.size<=b)/\b≠X.env.locals/\(∀x c,X.env.cells.lookup x=some c->c≠b)/\∀p∈X.pn++pins,p.1≠b) :
  Inv X pins σ H' { s with heap:=h',gens:=g',drawn:=d',toks:=t' }:=by
 obtain ⟨m,⟨o,es,ep,ho,r⟩,_⟩:=id I.loc
 obtain ⟨sl,hL⟩:=u.any ho I.free fun z=>(hch _ z).2.1 rfl
 exact I.step (ch:=ch) hch (fun b o hL hb hc e n=>u.keep b o e n (fun z=>(List.mem_cons.mp (I.stkSub b z)).elim hL hb) hc) (fun b o _ _ hc e n=>u.any e n hc) (fun b o hc e n=>u.free b o e n hc) (fun b o hc e=>u.there b o e hc) u.tups u.frzs u.tbls (fun m' hm=>by
  obtain ⟨o',es',ep',ho',r'⟩:=hm
  rw [ho] at ho';cases ho'
  exact ⟨_,es',ep',hL,r'⟩) hok hg
theorem Inv.turned {t':Nat} {it:Addr} (I:Inv X pins σ H s) (k:∀b o,b≠it->s.heap.get? b=some o->h'.get? b=some o) (hn:H it=none) (hL:it≠X.env.locals)
  (h1:it∈X.ex\/X.s₀.heap.objs.size<=it) (h2:∀x c,X.env.cells.lookup x=some c->c≠it) (h3:∀p∈X.pn++pins,p.1≠it):Inv X pins σ H { s with heap:=h',toks:=t' }:=by
 have nit:∀b u,H b=some u->b≠it:=fun b u e z=>by rw [z,hn] at e;cases e
 refine I.step (g':=s.gens) (d':=s.drawn) (ch:=[it]) (fun b hb=>?_) (fun b o _ _ hc e _=>k b o (fun z=>hc (by simp [z])) e) (fun b o _ _ hc e _=>⟨o.slots,k b o (fun z=>hc (by simp [z])) e⟩) (fun _ _ _ _ n=>n)
  (fun b o hc e=>⟨o,k b o (fun z=>hc (by simp [z])) e⟩) (fun _ _ e=>e) (fun _ _ _ e=>e) (fun b ps e=>⟨#[],by rw [e];simp⟩) (fun m hm=>?_) (fun b u e=>?_) I.bare
 ·have e:b=it:=by simpa using hb
  subst e
  exact ⟨h1,hL,h2,h3⟩
 ·obtain ⟨o,es,ep,ho,r⟩:=hm
  exact ⟨o,es,ep,k _ o (Ne.symm hL) ho,r⟩
 ·refine (I.hok b u e).stay (fun c v hc q=>k c v ?_ q) (fun _ q=>q) fun _ _ q=>q
  rcases hc with z|z
  ·rw [z];exact nit b u e
  ·exact nit c _ z
theorem Inv.tok (I:Inv X pins σ H s) (t:Nat):Inv X pins σ H { s with toks:=t }:=I.un (h':=s.heap) (t':=t) Un.refl I.hok
theorem Inv.kept {t':Nat} (I:Inv X pins σ H s) (k:∀b u,s.heap.get? b=some u->h'.get? b=some u):Inv X pins σ H { s with heap:=h',toks:=t' }:=I.un (Un.kept k) (I.hok.kept k)
theorem Inv.laid {a:Addr} {o:HO} {t':Nat} (I:Inv X pins σ H s) (k:∀b u,s.heap.get? b=some u->h'.get? b=some u) (hp:s.heap.objs.size<=a) (new:ObjOk X.prog X.w (upd H a o) h' a o) :
  Inv X pins σ (upd H a o) { s with heap:=h',toks:=t' }:=I.un (Un.laid k hp (I.hok.fresh hp)) (I.hok.laid k hp new)
theorem Inv.write {x e:Addr} {o:HO} {t':Nat} (I:Inv X pins σ H s) (mu:Mut (H x)) (he:e=x\/H e=some (.own x)) (k:∀b u,b≠e->s.heap.get? b=some u->h'.get? b=some u) (heo:∃u,h'.get? e=some u)
  (new:ObjOk X.prog X.w (upd H x o) h' x o):Inv X pins σ (upd H x o) { s with heap:=h',toks:=t' }:=I.un (Un.write mu he k heo) (I.hok.write mu he k heo new)
theorem Inv.pins_of {pins':List (Addr × Obj)} (I:Inv X pins σ H s) (h:∀p∈pins',s.heap.get? p.1=some p.2/\H p.1=none/\p.1≠X.env.locals/\p.1 ∉ X.fs/\∀v,p.2.data≠.cell v):Inv X pins' σ H s:=
 ⟨I.ok,I.os,I.bare,I.base,I.loc,I.cell,I.free,I.freeC,fun p hp=>(List.mem_append.mp hp).elim (fun z=>I.pin p (List.mem_append_left _ z)) (h p),I.hok,I.len⟩
theorem nodup_ix {N:List Str} (hN:N.Nodup) {i j:Nat} {x:Str} (a:N[i]? = some x) (b:N[j]? = some x):i=j:=by
 obtain ⟨h1,e1⟩:=List.getElem?_eq_some_iff.mp a
 obtain ⟨h2,e2⟩:=List.getElem?_eq_some_iff.mp b
 exact (List.getElem_inj hN).mp (e1.trans e2.symm)
theorem store_ok2 {M:Model} {A:Around} {E:Value->Shared->Prop} {i:Nat} {x:Str} {v:V} {u:Value} {Q:Unit->Shared->Prop} (I:Inv X pins σ H s) (hN:X.N.Nodup) (hi:X.N[i]? = some x) (hx:Loc X.env.scope x) (r:RelV v u)
  (h:∀s',Inv X pins (σ.set i (some v)) H s'->(∃a,Heap.SameBut a s.heap s'.heap/\(a=X.env.locals\/X.env.cells.lookup x=some a))->Q () s') (hf:X.fn x=true\/X.env.scope.names.lookup x=some .local:=by first|exact .inl rfl|exact .inr rfl|assumption):wpAny M A (storeName X.env x u) Q E s:=by
 obtain ⟨m,hn,hl⟩:=id I.loc
 have hcls:(X.env.scope.kind == .class || (X.env.scope.kind == .module && X.env.locals != X.env.globals))=false:=by rw [I.ok.kind];rfl
 have hiσ:i<σ.length:=by rw [I.len];exact (List.getElem?_eq_some_iff.mp hi).1
 have cne:=I.cne
 have tracked:∀{a:Addr} {h':Heap},(∃o,s.heap.get? a=some o/\H a=none)->Heap.SameBut a s.heap h'->HOk X.prog X.w H h':=fun {a h'} ha hs b ob e=>by
  obtain ⟨_,_,hfree⟩:=ha
  refine (I.hok b ob e).stay (fun c w' hc q=>(hs.2 c ?_).trans q) (fun _ q=>q) fun _ _ q=>q
  rintro rfl
  rcases hc with rfl|hc
  ·rw [hfree] at e;cases e
  ·rw [hfree] at hc;cases hc
 rcases hx with hk|hk
 ·refine wpAny_storeName_local hk hn (fun h' hn' hs=>?_) hcls
  obtain ⟨oL,_,_,hoL,_⟩:=id hn
  refine h _ ⟨I.ok,I.os,I.bare,⟨fun b o e n hb hx=>?_,fun b o e n hb hx=>?_,I.base.free,fun b o e hx=>?_,I.base.tups,I.base.frzs,I.base.tbls⟩,⟨_,hn',fun j y v' e1 e2 e3=>?_⟩,fun y c e=>?_,I.free,I.freeC,fun p hp=>?_,tracked ⟨oL,hoL,I.free⟩ hs,by simpa using I.len⟩ ⟨_,hs,.inl rfl⟩
  ·exact (hs.2 b (Nat.ne_of_lt (Nat.lt_of_lt_of_le (Heap.lt_size e) I.ok.above))).trans (I.base.keep b o e n hb hx)
  ·obtain ⟨sl,e1⟩:=I.base.slot b o e n hb hx
   exact ⟨sl,(hs.2 b (Nat.ne_of_lt (Nat.lt_of_lt_of_le (Heap.lt_size e) I.ok.above))).trans e1⟩
  ·obtain ⟨o',e1⟩:=I.base.there b o e hx
   exact ⟨o',(hs.2 b (Nat.ne_of_lt (Nat.lt_of_lt_of_le (Heap.lt_size e) I.ok.above))).trans e1⟩
  ·by_cases hj:j=i
   ·subst hj
    rw [hi] at e1;cases e1
    rw [List.getElem?_set_self hiσ] at e2
    cases e2
    exact ⟨u,r,.inl ⟨hk,by simp⟩⟩
   ·rw [List.getElem?_set_ne (Ne.symm hj)] at e2
    obtain ⟨u',r',q⟩:=hl j y v' e1 e2 e3
    refine ⟨u',r',?_⟩
    rcases q with ⟨k,e⟩|⟨k,c,e,z⟩
    ·refine .inl ⟨k,?_⟩
     have:y≠x:=fun e=>hj (nodup_ix hN e1 (e▸hi))
     simp [this,e]
    ·exact .inr ⟨k,c,e,z.sameBut hs (cne y c e)⟩
  ·obtain ⟨w',z⟩:=I.cell y c e
   exact ⟨w',z.sameBut hs (cne y c e)⟩
  ·obtain ⟨e,n,ne,nf,d⟩:=I.pin p hp
   exact ⟨(hs.2 p.1 ne).trans e,n,ne,nf,d⟩
 ·have hfn:X.fn x=true:=by
   rcases hf with z|z
   ·exact z
   ·rw [z] at hk;cases hk
  obtain ⟨c,hc⟩:=I.ok.has x (.inl hk)
  obtain ⟨w',z⟩:=I.cell x c hc
  refine wpAny_storeName_cell I.ok.kind hk hc z (fun h' hc' hs=>?_)
  obtain ⟨oc,hoc,hocd⟩:=id z
  refine h { s with heap:=h' } ⟨I.ok,I.os,I.bare,⟨fun b o e n hb hx=>?_,fun b o e n hb hx=>?_,I.base.free,fun b o e hx=>?_,I.base.tups,I.base.frzs,I.base.tbls⟩,⟨m,hn.sameBut hs (Ne.symm (cne x c hc)),fun j y v' e1 e2 e3=>?_⟩,fun y c' e=>?_,I.free,I.freeC,fun p hp=>?_,tracked ⟨oc,hoc,I.freeC x c hc⟩ hs,by simpa using I.len⟩ ⟨c,hs,.inr hc⟩
  ·exact (hs.2 b (Nat.ne_of_lt (Nat.lt_of_lt_of_le (Heap.lt_size e) (I.ok.cab x c hfn hc)))).trans (I.base.keep b o e n hb hx)
  ·obtain ⟨sl,e1⟩:=I.base.slot b o e n hb hx
   exact ⟨sl,(hs.2 b (Nat.ne_of_lt (Nat.lt_of_lt_of_le (Heap.lt_size e) (I.ok.cab x c hfn hc)))).trans e1⟩
  ·obtain ⟨o',e1⟩:=I.base.there b o e hx
   exact ⟨o',(hs.2 b (Nat.ne_of_lt (Nat.lt_of_lt_of_le (Heap.lt_size e) (I.ok.cab x c hfn hc)))).trans e1⟩
  ·by_cases hj:j=i
   ·subst hj
    rw [hi] at e1;cases e1
    rw [List.getElem?_set_self hiσ] at e2
    cases e2
    exact ⟨u,r,.inr ⟨.inl hk,c,hc,hc'⟩⟩
   ·rw [List.getElem?_set_ne (Ne.symm hj)] at e2
    obtain ⟨u',r',q⟩:=hl j y v' e1 e2 e3
    refine ⟨u',r',?_⟩
    rcases q with q|⟨k,c',e,z'⟩
    ·exact .inl q
    ·refine .inr ⟨k,c',e,z'.sameBut hs ?_⟩
     rintro rfl
     exact hj (nodup_ix hN e1 (I.ok.inj _ _ _ e hc▸hi))
  ·by_cases hcc:c'=c
   ·subst hcc;exact ⟨_,hc'⟩
   ·obtain ⟨w2,z2⟩:=I.cell y c' e
    exact ⟨w2,z2.sameBut hs hcc⟩
  ·obtain ⟨e,n,ne,nf,d⟩:=I.pin p hp
   refine ⟨(hs.2 p.1 ?_).trans e,n,ne,nf,d⟩
   intro q
   rw [q,hoc] at e
   have q':oc=p.2:=Option.some.inj e
   exact d w' (by rw [<-q'];exact hocd)
theorem store_ok {M:Model} {A:Around} {E:Value->Shared->Prop} {i:Nat} {x:Str} {v:V} {u:Value} {Q:Unit->Shared->Prop} (I:Inv X pins σ H s) (hN:X.N.Nodup) (hi:X.N[i]? = some x) (hx:Loc X.env.scope x) (r:RelV v u)
  (h:∀s',Inv X pins (σ.set i (some v)) H s'->Q () s') (hf:X.fn x=true\/X.env.scope.names.lookup x=some .local:=by first|exact .inl rfl|exact .inr rfl|assumption):wpAny M A (storeName X.env x u) Q E s:=
 store_ok2 I hN hi hx r (fun s' I' _=>h s' I') hf
theorem Inv.call' {s':Shared} {ch:List Addr} (I:Inv X pins σ H s) (ho:s'.os=s.os) (u:Un (frs X.stack) ch H H' s.heap s'.heap) (hok:HOk X.prog X.w H' s'.heap) (hg:AllBare s'.gens)
  (hch:∀b∈ch,(b∈X.ex\/X.s₀.heap.objs.size<=b)/\b≠X.env.locals/\(∀x c,X.env.cells.lookup x=some c->c≠b)/\∀p∈X.pn++pins,p.1≠b):Inv X pins σ H' s':=by
 obtain ⟨h',g',d',t',o'⟩:=s'
 have e:o'=s.os:=ho
 subst e
 exact I.call (g':=g') (t':=t') (d':=d') u hok hg hch
end
abbrev XK:=Value->Option Addr->Hp->Prop
abbrev St:=List (Option V)
abbrev VK:=V->Hp->Prop
abbrev TE:=St->Hp->VK->Prop
abbrev TT:=St->Hp->(Bool->Hp->Prop)->Prop
abbrev TA:=St->Hp->(List V->Hp->Prop)->Prop
structure Ends where
 nx:St->Hp->Prop
 rt:VK
 bk:St->Hp->Prop:=fun _ _=>False
 ct:St->Hp->Prop:=fun _ _=>False
abbrev TS:=Ends->St->Hp->Prop
def EP (X:Cx) (pins:List (Addr × Obj)) (σ:St) (Q:VK) (u:Value) (s':Shared):Prop:=∃v H',Inv X pins σ H' s'/\RelV v u/\Q v H'
def TP (X:Cx) (pins:List (Addr × Obj)) (σ:St) (Q:Bool->Hp->Prop) (b:Bool) (s':Shared):Prop:=∃H',Inv X pins σ H' s'/\Q b H'
def AP (X:Cx) (pins:List (Addr × Obj)) (σ:St) (Q:List V->Hp->Prop) (us:List Value) (s':Shared):Prop:=∃vs H',Inv X pins σ H' s'/\Vals vs us/\Q vs H'
def SP (X:Cx) (pins:List (Addr × Obj)) (D:Ends) (f:Flow) (s':Shared):Prop:=
 match f with
 | .next=>∃σ' H',Inv X pins σ' H' s'/\D.nx σ' H'
 | .brk=>∃σ' H',Inv X pins σ' H' s'/\D.bk σ' H'
 | .cont=>∃σ' H',Inv X pins σ' H' s'/\D.ct σ' H'
 | .ret u=>∃v σ' H',Inv X pins σ' H' s'/\RelV v u/\D.rt v H'
def PE (X:Cx) (e:Expr) (t:TE):Prop:=
 ∀(pins:List (Addr × Obj)) (s:Shared) (σ:St) (H:Hp) (Q:VK),Inv X pins σ H s->t σ H Q->wpAny (model X.prog X.w) X.A (eval e X.env) (EP X pins σ Q) X.xe s
def PT (X:Cx) (e:Expr) (t:TT):Prop:=
 ∀(pins:List (Addr × Obj)) (s:Shared) (σ:St) (H:Hp) (Q:Bool->Hp->Prop),Inv X pins σ H s->t σ H Q->wpAny (model X.prog X.w) X.A (isTrue e X.env (eval e X.env)) (TP X pins σ Q) X.xe s
def PW (X:Cx) (e:Expr) (t:TT):Prop:=
 ∀(whole:Sem Value) (pins:List (Addr × Obj)) (s:Shared) (σ:St) (H:Hp) (Q:Bool->Hp->Prop),Inv X pins σ H s->t σ H Q->wpAny (model X.prog X.w) X.A (isTrue e X.env whole) (TP X pins σ Q) X.xe s
theorem PW.pt {X:Cx} {e:Expr} {t:TT} (h:PW X e t):PT X e t:=h _
def PA (X:Cx) (es:List Expr) (t:TA):Prop:=
 ∀(pos:Pos) (pins:List (Addr × Obj)) (s:Shared) (σ:St) (H:Hp) (Q:List V->Hp->Prop),Inv X pins σ H s->t σ H Q->wpAny (model X.prog X.w) X.A (spliced (backTo pos (starEach es X.env))) (AP X pins σ Q) X.xe s
def PS (X:Cx) (st:Stmt) (t:TS):Prop:=
 ∀(pins:List (Addr × Obj)) (s:Shared) (σ:St) (H:Hp) (D:Ends),Inv X pins σ H s->t D σ H->wpAny (model X.prog X.w) X.A (exec st X.env) (SP X pins D) X.xe s
def PSs (X:Cx) (st:List Stmt) (t:TS):Prop:=
 ∀(pins:List (Addr × Obj)) (s:Shared) (σ:St) (H:Hp) (D:Ends),Inv X pins σ H s->t D σ H->wpAny (model X.prog X.w) X.A (execs st X.env) (SP X pins D) X.xe s
theorem thn {α:Type} {t:Sem α} {Q Q':α->Shared->Prop} {M:Model} {A:Around} {E:Value->Shared->Prop} {s:Shared} (h:wpAny M A t Q E s) (hQ:∀a s,Q a s->Q' a s):wpAny M A t Q' E s:=wpAny_mono h hQ fun _ _ x=>x
section
variable {X:Cx}
theorem bin {a b:Expr} {ta tb:TE} (ha:PE X a ta) (hb:PE X b tb) {pins:List (Addr × Obj)} {s:Shared} {σ:St} {H:Hp} {R:V->V->Hp->Prop} (I:Inv X pins σ H s) (h:ta σ H fun x H1=>tb σ H1 fun y H2=>R x y H2)
  {α:Type} {Q:α->Shared->Prop} {f:Value->Value->Sem α}
  (hf:∀v u s2 x y H2,Inv X pins σ H2 s2->RelV x v->RelV y u->R x y H2->wpAny (model X.prog X.w) X.A (f v u) Q X.xe s2) :
  wpAny (model X.prog X.w) X.A (eval a X.env) (fun v s₁=>wpAny (model X.prog X.w) X.A (eval b X.env) (fun u s₂=>wpAny (model X.prog X.w) X.A (f v u) Q X.xe s₂) X.xe s₁) X.xe s:=by
 refine thn (ha pins s σ H _ I h) fun v s1 ⟨x,H1,I1,r1,q1⟩=>?_
 refine thn (hb pins s1 σ H1 _ I1 q1) fun u s2 ⟨y,H2,I2,r2,q2⟩=>?_
 exact hf v u s2 x y H2 I2 r1 r2 q2
def tVar (i:Nat):TE:=fun σ H Q=>∃v,σ[i]? = some (some v)/\Q v H
def tC (v:V):TE:=fun _ H Q=>Q v H
theorem pe_var {i:Nat} {x:Str} {pos:Pos} (hN:X.N[i]? = some x) (hv:Vis X.env.scope x) (hd:(x == ("__debug__":Str))=false:=by decide) (hcd:(x == ("__classdict__":Str))=false:=by decide):PE X (.Name x pos) (tVar i):=by
 intro pins s σ H Q I h
 obtain ⟨v,e,h⟩:=h
 obtain ⟨m,hn,hl⟩:=I.loc
 obtain ⟨u,r,l⟩:=hl i x v hN e hv
 have fin:EP X pins σ Q u s:=⟨v,H,I,r,h⟩
 rcases l with ⟨hk,hm⟩|⟨hk,c,hc,hcell⟩
 ·exact wpAny_Name (wpAny_loadName_local I.ok.kind hk hn hm fin) hd
 ·rcases hk with hk|hk
  ·exact wpAny_Name (wpAny_loadName_cell I.ok.kind hk hc hcell fin) hd
  ·exact wpAny_Name (wpAny_loadName_free I.ok.kind hk hc hcell fin hcd) hd
theorem pe_int {i j pos}:PE X (.Constant (.int i) j pos) (tC (.int i)):=fun _ _ _ H _ I h=>wpAny_Constant_int ⟨.int i,H,I.tok _,⟨_,rfl⟩,h⟩
theorem pe_bl {b j pos}:PE X (.Constant (.bool b) j pos) (tC (.bl b)):=fun _ _ _ H _ I h=>Constant_bool ⟨.bl b,H,I,rfl,h⟩
theorem pe_non {j pos}:PE X (.Constant .none j pos) (tC .non):=fun _ _ _ H _ I h=>Constant_none ⟨.non,H,I,rfl,h⟩
theorem pe_str {x j pos}:PE X (.Constant (.str x) j pos) (tC (.str x)):=fun _ _ _ H _ I h=>Calls.Constant_str ⟨.str x,H,I.tok _,⟨_,rfl⟩,h⟩
def Gl (X:Cx) (x:Str):Prop:=X.env.kindOf x=some .globalImplicit
theorem ld_glob {E:Value->Shared->Prop} {pins:List (Addr × Obj)} {s:Shared} {σ:St} {H:Hp} {x:Str} {u:Value} {pos:Pos} {Q:Value->Shared->Prop} (I:Inv X pins σ H s) (hg:Gl X x) (hm:X.mg x=some u) (h:Q u s)
  (hd:(x == ("__debug__":Str))=false:=by decide):wpAny (model X.prog X.w) X.A (eval (.Name x pos) X.env) Q E s:=
 Calls.Name_function_global I.ok.kind hg (Calls.loadGlobal_global (by rw [I.ok.glob];exact I.mod.glob.keeps I.bk) hm h) hd
theorem ld_blt {E:Value->Shared->Prop} {pins:List (Addr × Obj)} {s:Shared} {σ:St} {H:Hp} {x:Str} {u:Value} {pos:Pos} {Q:Value->Shared->Prop} (I:Inv X pins σ H s) (hg:Gl X x) (hm:X.mg x=none) (hv:bootBuiltins x=some u) (h:Q u s)
  (hn:x≠"__name__":=by decide) (hd:(x == ("__debug__":Str))=false:=by decide):wpAny (model X.prog X.w) X.A (eval (.Name x pos) X.env) Q E s:=by
 obtain ⟨mb,h1,h2⟩:=I.mod.blt
 exact Calls.Name_function_global I.ok.kind hg (Calls.loadGlobal_builtin (by rw [I.ok.glob];exact I.mod.glob.keeps I.bk) hm (by rw [I.ok.blt];exact h1.keeps I.bk) ((h2 x hn).trans hv) h) hd
theorem pe_glob {x:Str} {v:V} {u:Value} {pos:Pos} (hg:Gl X x) (hm:X.mg x=some u) (r:RelV v u) (hd:(x == ("__debug__":Str))=false:=by decide):PE X (.Name x pos) (tC v):=
 fun _ _ _ H _ I h=>ld_glob I hg hm ⟨v,H,I,r,h⟩ hd
theorem pe_bltn {x:Str} {v:V} {u:Value} {pos:Pos} (hg:Gl X x) (hm:X.mg x=none) (hv:bootBuiltins x=some u) (r:RelV v u) (hn:x≠"__name__":=by decide) (hd:(x == ("__debug__":Str))=false:=by decide):PE X (.Name x pos) (tC v):=
 fun _ _ _ H _ I h=>ld_blt I hg hm hv ⟨v,H,I,r,h⟩ hn hd
variable {a b:Expr} {ta tb:TE} {pos:Pos}
def PC (X:Cx) (op:CmpOp) (a b:Expr) (t:TE):Prop:=
 ∀(pins:List (Addr × Obj)) (s:Shared) (σ:St) (H:Hp) (Q:VK),Inv X pins σ H s->t σ H Q->
  wpAny (model X.prog X.w) X.A (eval a X.env) (fun v s₁=>wpAny (model X.prog X.w) X.A (eval b X.env) (fun u s₂=>wpAny (model X.prog X.w) X.A (compareOp op v u) (EP X pins σ Q) X.xe s₂) X.xe s₁) X.xe s
theorem nobehind (b:Expr) {op:CmpOp} (h:op≠.In) (h2:op≠.NotIn):behindInMarks op b=false:=by
 have e1:(op == CmpOp.In)=false:=by cases op<;>first|rfl|exact absurd rfl h
 have e2:(op == CmpOp.NotIn)=false:=by cases op<;>first|rfl|exact absurd rfl h2
 cases b<;>simp [behindInMarks,e1,e2]
def tB (t:TE):TT:=fun σ H Q=>t σ H fun x H1=>∃c,x=.bl c/\Q c H1
theorem pt_cmp {op:CmpOp} {t:TE} (h:PC X op a b t) (h1:behindInMarks op b=false:=by first|exact nobehind _ (by decide) (by decide)|rfl):PT X (.Compare a [op] [b] pos) (tB t):=by
 intro pins s σ H Q I hw
 refine wpAny_isTrue_Compare1 (thn (h pins s σ H _ I hw) fun v s1 h1=>thn h1 fun u s2 h2=>thn h2 fun c s3 ⟨x,H1,I1,r1,q1⟩=>?_) h1
 obtain ⟨d,rfl,q⟩:=q1
 cases r1
 exact wpAny_truthy_bool ⟨H1,I1,q⟩
theorem pt_val {e : Expr} {t : TE} (h : PE X e t) (he : ∀ whole, isTrue e X.env whole = (do let v ← whole; standAt e.pos; holding [v] (truthy v)) := by intro _; rfl) : PT X e (tB t) := by
  intro pins s σ H Q I hw
  refine isTrue_plain (thn (h pins s σ H _ I hw) fun v s1 ⟨x, H1, I1, r1, q1⟩ => ?_) (he _)
  obtain ⟨d, rfl, q⟩ := q1
  cases r1
  exact wpAny_truthy_bool ⟨H1, I1, q⟩
variable {tA tB':TT} {rest:List Expr}
def tAnd (t u:TT):TT:=fun σ H Q=>t σ H fun c H1=>if c=true then u σ H1 Q else Q false H1
def tOr (t u:TT):TT:=fun σ H Q=>t σ H fun c H1=>if c=true then Q true H1 else u σ H1 Q
def tNot (t:TT):TT:=fun σ H Q=>t σ H fun c H1=>Q (!c) H1
theorem pw_and1 (ha:PT X a tA):PW X (.BoolOp .And [a] pos) tA:=by
 intro wh pins s σ H Q I h
 refine isTrue_and (thn (ha pins s σ H Q I h) fun c s1 e=>?_)
 cases c with
 | true=>exact isTrue_and_nil e
 | false=>exact e
theorem pw_or1 (ha:PT X a tA):PW X (.BoolOp .Or [a] pos) tA:=by
 intro wh pins s σ H Q I h
 refine isTrue_or (thn (ha pins s σ H Q I h) fun c s1 e=>?_)
 cases c with
 | false=>exact isTrue_or_nil e
 | true=>exact e
theorem pw_and (ha:PT X a tA) (hb:PW X (.BoolOp .And (b::rest) pos) tB'):PW X (.BoolOp .And (a::b::rest) pos) (tAnd tA tB'):=by
 intro wh pins s σ H Q I h
 refine isTrue_and (thn (ha pins s σ H _ I h) fun c s1 ⟨H1,I1,q1⟩=>?_)
 cases c with
 | true=>exact hb wh pins s1 σ H1 Q I1 q1
 | false=>exact ⟨H1,I1,q1⟩
theorem pw_or (ha:PT X a tA) (hb:PW X (.BoolOp .Or (b::rest) pos) tB'):PW X (.BoolOp .Or (a::b::rest) pos) (tOr tA tB'):=by
 intro wh pins s σ H Q I h
 refine isTrue_or (thn (ha pins s σ H _ I h) fun c s1 ⟨H1,I1,q1⟩=>?_)
 cases c with
 | true=>exact ⟨H1,I1,q1⟩
 | false=>exact hb wh pins s1 σ H1 Q I1 q1
theorem pt_not (ha:PT X a tA):PT X (.UnaryOp .Not a pos) (tNot tA):=by
 intro pins s σ H Q I h
 exact isTrue_not (ha pins s σ H (fun c H1=>Q (!c) H1) I h)
def tAndV (ta tb:TE):TE:=fun σ H Q=>ta σ H fun x H1=>∃c,x=.bl c/\if c=true then tb σ H1 Q else Q (.bl false) H1
def tOrV (ta tb:TE):TE:=fun σ H Q=>ta σ H fun x H1=>∃c,x=.bl c/\if c=true then Q (.bl true) H1 else tb σ H1 Q
theorem pe_one {op} {t:TE} (h:PE X a t):PE X (.BoolOp op [a] pos) t:=fun pins s σ H Q I hw=>BoolOp_one (h pins s σ H Q I hw)
theorem pe_and (ha:PE X a ta) (hb:PE X (.BoolOp .And (b::rest) pos) tb):PE X (.BoolOp .And (a::b::rest) pos) (tAndV ta tb):=by
 intro pins s σ H Q I h
 refine BoolOp_and (thn (ha pins s σ H _ I h) fun v s1 ⟨x,H1,I1,r1,q1⟩=>?_)
 obtain ⟨c,rfl,q1⟩:=q1
 cases r1
 refine wpAny_truthy_bool ?_
 cases c with
 | true=>exact hb pins s1 σ H1 Q I1 q1
 | false=>exact ⟨.bl false,H1,I1,rfl,q1⟩
theorem pe_or (ha:PE X a ta) (hb:PE X (.BoolOp .Or (b::rest) pos) tb):PE X (.BoolOp .Or (a::b::rest) pos) (tOrV ta tb):=by
 intro pins s σ H Q I h
 refine BoolOp_or (thn (ha pins s σ H _ I h) fun v s1 ⟨x,H1,I1,r1,q1⟩=>?_)
 obtain ⟨c,rfl,q1⟩:=q1
 cases r1
 refine wpAny_truthy_bool ?_
 cases c with
 | false=>exact hb pins s1 σ H1 Q I1 q1
 | true=>exact ⟨.bl true,H1,I1,rfl,q1⟩
def tIf (t:TT) (ta tb:TE):TE:=fun σ H Q=>t σ H fun c H1=>if c=true then ta σ H1 Q else tb σ H1 Q
theorem pe_ifExp {c:Expr} (hc:PT X c tA) (ha:PE X a ta) (hb:PE X b tb):PE X (.IfExp c a b pos) (tIf tA ta tb):=by
 intro pins s σ H Q I h
 refine wpAny_IfExp (thn (hc pins s σ H _ I h) fun d s1 ⟨H1,I1,q1⟩=>?_)
 cases d with
 | true=>exact ha pins s1 σ H1 Q I1 q1
 | false=>exact hb pins s1 σ H1 Q I1 q1
end
def SqL (K:PySem.W.Frag) (H:Hp) (a:Addr) (xs:List V):Prop:=
 Rd H a (.lst xs) \/
  ∃(o:Obj) (its:Array Value) (n:Nat),K.lookup a=some o/\o.cls=.type "list"/\o.dict=none/\o.data=.seq its n/\its.size<=sizeLine/\Vals xs its.toList
def SqT (K:PySem.W.Frag) (H:Hp) (a:Addr) (xs:List V):Prop:=
 Rd H a (.tup xs) \/
  ∃(o:Obj) (its:Array Value) (n:Nat),K.lookup a=some o/\o.cls=.type "tuple"/\o.data=.seq its n/\its.size<=sizeLine/\Vals xs its.toList
def absV:Value->Option V
 | .none=>some .non
 | .bool b=>some (.bl b)
 | .int i _=>some (.int i)
 | .str x _=>some (.str x)
 | .bytes b _=>some (.byt b)
 | .float b _=>some (.flt b)
 | .ref a=>some (.ref a)
 | .type n=>some (.ty n)
 | _=>none
theorem RelV.abs {x:V} {u:Value} (r:RelV x u):absV u=some x:=by
 cases x with
 | non=>cases r;rfl
 | bl _=>cases r;rfl
 | int _=>obtain ⟨t,rfl⟩:=r;rfl
 | str _=>obtain ⟨t,rfl⟩:=r;rfl
 | byt _=>obtain ⟨t,rfl⟩:=r;rfl
 | flt _=>obtain ⟨t,rfl⟩:=r;rfl
 | ref _=>cases r;rfl
 | ty _=>cases r;rfl
theorem RelV.inj {x y:V} {u:Value} (r:RelV x u) (q:RelV y u):x=y:=Option.some.inj (r.abs.symm.trans q.abs)
theorem Vals.inj:∀{xs ys:List V} {us:List Value},Vals xs us->Vals ys us->xs=ys
 | _,_,_,.nil,.nil=>rfl
 | _,_,_,.cons r t,.cons r' t'=>by rw [r.inj r',Vals.inj t t']
section
variable {X:Cx} {pins:List (Addr × Obj)} {σ:St} {H:Hp} {s:Shared} {a:Addr} {xs ys:List V}
theorem SqL.of {K:PySem.W.Frag} (h:H a=some (.lst xs)):SqL K H a xs:=.inl (.inl h)
theorem SqT.of {K:PySem.W.Frag} (h:H a=some (.tup xs)):SqT K H a xs:=.inl (.inl h)
theorem Inv.list (I:Inv X pins σ H s) (h:SqL X.K H a xs):∃its:List Value,Vals xs its/\PlainL s.heap a its.toArray/\xs.length<=sizeLine:=by
 rcases h with h|⟨o,its,n,hk,hc,hd,hs,hz,r⟩
 ·obtain ⟨z,its,n,r,e⟩:=h.ok I.hok
  exact ⟨its,r,⟨_,n,e,rfl,rfl,rfl⟩,z⟩
 ·refine ⟨its.toList,r,⟨o,n,I.kIn a o hk,hc,hd,by simpa using hs⟩,?_⟩
  have e:=r.length
  simp only [Array.length_toList] at e
  omega
theorem Inv.tuple (I:Inv X pins σ H s) (h:SqT X.K H a xs):∃its:List Value,Vals xs its/\IsTup s.heap a its.toArray/\xs.length<=sizeLine:=by
 rcases h with h|⟨o,its,n,hk,hc,hs,hz,r⟩
 ·obtain ⟨z,its,r,p⟩:=h.ok I.hok
  exact ⟨its,r,p,z⟩
 ·refine ⟨its.toList,r,⟨o,I.kIn a o hk,hc,n,by simpa using hs⟩,?_⟩
  have e:=r.length
  simp only [Array.length_toList] at e
  omega
theorem Inv.list_inj (I:Inv X pins σ H s) (h:SqL X.K H a xs) (h':SqL X.K H a ys):xs=ys:=by
 obtain ⟨its,r,⟨o,n,e,_,_,d⟩,_⟩:=I.list h
 obtain ⟨its',r',⟨o',n',e',_,_,d'⟩,_⟩:=I.list h'
 rw [e] at e';cases e'
 rw [d] at d'
 injection d' with d1 _
 have:its=its':=by simpa using congrArg Array.toList d1
 subst this
 exact r.inj r'
end
abbrev Cx.wish (X:Cx) (E:Value->Shared->Prop):Cx:={ X with xe:=E }
abbrev Cx.nox (X:Cx):Cx:=X.wish fun _ _=>False
theorem Cx.Ok.wish {X:Cx} (ok:X.Ok) (E:Value->Shared->Prop):(X.wish E).Ok:=
 ⟨ok.mod,ok.kind,ok.glob,ok.blt,ok.above,ok.inj,ok.has,ok.cab,ok.hd,ok.frames,ok.stk,ok.exf,ok.bs,ok.bsz,ok.noex,ok.exfs,ok.funs,ok.frf⟩
theorem Cx.Ok.unwish {X:Cx} {E:Value->Shared->Prop} (ok:(X.wish E).Ok):X.Ok:=
 ⟨ok.mod,ok.kind,ok.glob,ok.blt,ok.above,ok.inj,ok.has,ok.cab,ok.hd,ok.frames,ok.stk,ok.exf,ok.bs,ok.bsz,ok.noex,ok.exfs,ok.funs,ok.frf⟩
section
variable {X:Cx} {pins:List (Addr × Obj)} {σ:St} {H:Hp} {s:Shared} {E:Value->Shared->Prop}
theorem Inv.wish (I:Inv X pins σ H s) (E:Value->Shared->Prop):Inv (X.wish E) pins σ H s:=⟨I.ok.wish E,I.os,I.bare,I.base,I.loc,I.cell,I.free,I.freeC,I.pin,I.hok,I.len⟩
theorem Inv.unwish (I:Inv (X.wish E) pins σ H s):Inv X pins σ H s:=⟨I.ok.unwish,I.os,I.bare,I.base,I.loc,I.cell,I.free,I.freeC,I.pin,I.hok,I.len⟩
theorem SP.unwish {D:Ends} {f:Flow} {s':Shared} (h:SP (X.wish E) pins D f s'):SP X pins D f s':=by
 cases f with
 | next=>obtain ⟨σ',H',I,q⟩:=h;exact ⟨σ',H',I.unwish,q⟩
 | brk=>obtain ⟨σ',H',I,q⟩:=h;exact ⟨σ',H',I.unwish,q⟩
 | cont=>obtain ⟨σ',H',I,q⟩:=h;exact ⟨σ',H',I.unwish,q⟩
 | ret u=>obtain ⟨v,σ',H',I,r,q⟩:=h;exact ⟨v,σ',H',I.unwish,r,q⟩
theorem PSs.nox {st:List Stmt} {t:TS} (h:PSs X.nox st t):PSs X st t:=fun pins s σ H D I hw=>
 wpAny_mono (h pins s σ H D (I.wish _) hw) (fun _ _ q=>q.unwish) fun _ _ z=>False.elim z
end
section
variable {X:Cx} {st:Stmt} {rest:List Stmt} {t u:TS} {e:Expr} {te:TE} {pos:Pos}
def tNext:TS:=fun D σ H=>D.nx σ H
def tSeq (t u:TS):TS:=fun D σ H=>t { D with nx:=u D } σ H
theorem pss_nil:PSs X [] tNext:=fun _ _ σ H _ I h=>wpAny_execs_nil ⟨σ,H,I,h⟩
theorem pss_cons (h1:PS X st t) (h2:PSs X rest u):PSs X (st::rest) (tSeq t u):=by
 intro pins s σ H D I h
 refine wpAny_execs_cons (thn (h1 pins s σ H { D with nx:=u D } I h) fun f s1 q=>?_)
 cases f with
 | next=>
  obtain ⟨σ',H',I',q⟩:=q
  exact h2 pins s1 σ' H' D I' q
 | ret v=>exact q
 | brk=>exact q
 | cont=>exact q
theorem pss_one (h1:PS X st t):PSs X [st] t:=by
 intro pins s σ H D I h
 refine wpAny_execs_cons (thn (h1 pins s σ H D I h) fun f s1 q=>?_)
 cases f with
 | next=>exact wpAny_execs_nil q
 | ret v=>exact q
 | brk=>exact q
 | cont=>exact q
theorem Inv.quiet {pins:List (Addr × Obj)} {σ:St} {H:Hp} {s:Shared} (I:Inv X pins σ H s):interactive X.env=false:=by simp [interactive,I.ok.kind]
def tDrop (te:TE):TS:=fun D σ H=>te σ H fun _ H1=>D.nx σ H1
theorem ps_expr (he:PE X e te) (hs:swapsWith e none pos.line X.env=pure false:=by rfl):PS X (.Expr e pos) (tDrop te):=by
 intro pins s σ H D I h
 exact wpAny_Expr_any (thn (he pins s σ H _ I h) fun v s1 ⟨x,H1,I1,r1,q1⟩=>⟨σ,H1,I1,q1⟩) I.quiet hs
def tRet (te:TE):TS:=fun D σ H=>te σ H D.rt
theorem ps_ret (he:PE X e te):PS X (.Return (some e) pos) (tRet te):=by
 intro pins s σ H D I h
 exact wpAny_Return_some (thn (he pins s σ H _ I h) fun v s1 ⟨x,H1,I1,r1,q1⟩=>⟨x,σ,H1,I1,r1,q1⟩)
def tIfS (c:TT) (t u:TS):TS:=fun D σ H=>c σ H fun b H1=>if b=true then t D σ H1 else u D σ H1
theorem ps_if {c:Expr} {a b:List Stmt} {tc:TT} (hc:PT X c tc) (ha:PSs X a t) (hb:PSs X b u):PS X (.If c a b pos) (tIfS tc t u):=by
 intro pins s σ H D I h
 refine wpAny_If (thn (hc pins s σ H _ I h) fun d s1 ⟨H1,I1,q1⟩=>?_)
 cases d with
 | true=>exact ha pins s1 σ H1 D I1 q1
 | false=>exact hb pins s1 σ H1 D I1 q1
end
abbrev TG:=V->St->Hp->(St->Hp->Prop)->Prop
def PG (X:Cx) (target:Expr) (t:TG):Prop:=
 ∀(pins:List (Addr × Obj)) (s:Shared) (σ:St) (H:Hp) (v:V) (u:Value) (Q:St->Hp->Prop),Inv X pins σ H s->RelV v u->t v σ H Q->
  wpAny (model X.prog X.w) X.A (assign target X.env u) (fun _ s'=>∃σ' H',Inv X pins σ' H' s'/\Q σ' H') X.xe s
abbrev TSet:=V->V->V->Hp->(Hp->Prop)->Prop
def PSet (X:Cx) (t:TSet):Prop:=
 ∀(pins:List (Addr × Obj)) (s:Shared) (σ:St) (H:Hp) (o i v:V) (ov iv u:Value) (Q:Hp->Prop),Inv X pins σ H s->RelV o ov->RelV i iv->RelV v u->t o i v H Q->
  wpAny (model X.prog X.w) X.A (setItem ov iv u) (fun _ s'=>∃H',Inv X pins σ H' s'/\Q H') X.xe s
section
variable {X:Cx} {pos:Pos}
def gName (i:Nat):TG:=fun v σ H Q=>Q (σ.set i (some v)) H
theorem pg_name {i:Nat} {x:Str} (hN:X.N.Nodup) (hi:X.N[i]? = some x) (hx:Loc X.env.scope x) (hf:X.fn x=true\/X.env.scope.names.lookup x=some .local:=by first|exact .inl rfl|exact .inr rfl|assumption):PG X (.Name x pos) (gName i):=by
 intro pins s σ H v u Q I r h
 exact wpAny_assign_Name (store_ok I hN hi hx r (fun s' I'=>⟨_,H,I',h⟩) hf)
def gSub (to ti:TE) (t:TSet):TG:=fun v σ H Q=>to σ H fun o H1=>ti σ H1 fun i H2=>t o i v H2 fun H3=>Q σ H3
theorem pg_sub {o i : Expr} {to ti : TE} {t : TSet} (ho : PE X o to) (hi : PE X i ti) (hs : PSet X t)
    (ha : ∀ v, assign (.Subscript o i pos) X.env v = (do
      let ov ← holding [v] (eval o X.env)
      let iv ← holding [v, ov] (eval i X.env)
      standAt pos
      holding [v, ov, iv] (setItem ov iv v)
      release [v, ov, iv] []) := by intro _; rfl) : PG X (.Subscript o i pos) (gSub to ti t) := by
  intro pins s σ H v u Q I r h
  rw [ha]
  refine wpAny_bind (wpAny_holding (thn (ho pins s σ H _ I h) fun ov s1 ⟨x, H1, I1, r1, q1⟩ => ?_))
  refine wpAny_bind (wpAny_holding (thn (hi pins s1 σ H1 _ I1 q1) fun iv s2 ⟨y, H2, I2, r2, q2⟩ => ?_))
  refine wpAny_bind (wpAny_standAt (wpAny_bind (wpAny_holding (thn (hs pins s2 σ H2 x y v ov iv u _ I2 r1 r2 r q2) fun _ s3 ⟨H3, I3, q3⟩ => ?_))))
  exact wpAny_release ⟨σ, H3, I3, q3⟩
def tAsg (te:TE) (g:TG):TS:=fun D σ H=>te σ H fun x H1=>g x σ H1 D.nx
theorem ps_asg {tg e:Expr} {te:TE} {g:TG} (he:PE X e te) (hg:PG X tg g) (hs:swapsWithSole [tg] e pos.line X.env=pure false:=by rfl) (hw:swappedStores [tg] e X.env=pure none:=by rfl)
  (h1:(assignEach [tg] X.env).map (·.2)=[assign tg X.env]:=by rfl):PS X (.Assign [tg] e pos) (tAsg te g):=by
 intro pins s σ H D I h
 refine wpAny_Assign_stores (thn (he pins s σ H _ I h) fun v s1 ⟨x,H1,I1,r1,q1⟩=>?_) hs hw
 rw [h1]
 exact thn (hg pins s1 σ H1 x v _ I1 r1 q1) fun _ s2 q=>q
theorem ps_set {i:Nat} {x:Str} {e:Expr} {te:TE} {pos':Pos} (hN:X.N.Nodup) (hi:X.N[i]? = some x) (hx:Loc X.env.scope x) (he:PE X e te) (hs:swapsWith e (some (.Name x pos')) pos.line X.env=pure false:=by rfl) (hf:X.fn x=true\/X.env.scope.names.lookup x=some .local:=by first|exact .inl rfl|exact .inr rfl|assumption) :
  PS X (.Assign [.Name x pos'] e pos) (tAsg te (gName i)):=by
 intro pins s σ H D I h
 refine wpAny_Assign_Name (thn (he pins s σ H _ I h) fun v s1 ⟨y,H1,I1,r1,q1⟩=>?_) hs
 exact store_ok I1 hN hi hx r1 (fun s2 I2=>⟨_,H1,I2,q1⟩) hf
end
structure It where
 go:Nat->Hp->Prop
 yld:Nat->Hp->V->Hp->Prop
 stop:Nat->Hp->Prop
def FpOk (X:Cx) (pins:List (Addr × Obj)) (H:Hp) (b:Addr):Prop:=
 H b=none/\b≠X.env.locals/\b ∉ X.fs/\(b∈X.ex\/X.s₀.heap.objs.size<=b)/\(∀x c,X.env.cells.lookup x=some c->c≠b)/\∀p∈X.pn++pins,p.1≠b
theorem Inv.fpOk {X:Cx} {pins:List (Addr × Obj)} {σ:St} {H H':Hp} {s:Shared} {b:Addr} (I:Inv X pins σ H s) (hb:s.heap.objs.size<=b) (hn:H' b=none):FpOk X pins H' b:=by
 refine ⟨hn,Nat.ne_of_gt (Nat.lt_of_lt_of_le I.lt hb),I.nofs hb,.inr (Nat.le_trans I.sz hb),fun x c e z=>?_,fun p hp z=>?_⟩
 ·obtain ⟨v,q⟩:=I.cell x c e
  exact absurd (Nat.lt_of_lt_of_le q.lt (by rw [z];exact hb)) (Nat.lt_irrefl _)
 ·exact absurd (Nat.lt_of_lt_of_le (Heap.lt_size (I.pin p hp).1) (by rw [z];exact hb)) (Nat.lt_irrefl _)
structure Turn (P:Program) (w:World) (K:PySem.W.Frag) (tg:Expr) (J:It) (fp:List Addr) (it:Addr) (tn:Nat->Heap->Prop):Prop where
 mem:it∈fp
 obj:∀i h,tn i h->∀b∈fp,∃o,h.get? b=some o/\∀v,o.data≠.cell v
 keep:∀i h h',tn i h->(∀b∈fp,∀o,h.get? b=some o->h'.get? b=some o)->tn i h'
 item:∀(X:Cx),X.prog=P->X.w=w->X.K=K->X.calm=true->∀(i:Nat) (pins:List (Addr × Obj)) (s:Shared) (σ:St) (H:Hp) (E:Value->Shared->Prop),Inv X pins σ H s->(∀b∈fp,FpOk X pins H b)->tn i s.heap->J.go i H->
  wpAny (model P w) X.A (pyNext (.ref it)) (fun r s1=>∃u,r=some u /\
   wpAny (model P w) X.A (letOwnedTupleGo tg (.ref it) u) (fun _ s2=>∃x H',Inv X pins σ H' s2/\RelV x u/\J.yld i H x H'/\tn (i+1) s2.heap/\∀b∈fp,H' b=none) E s1) E s
 done:∀(X:Cx),X.prog=P->X.w=w->X.K=K->X.calm=true->∀(i:Nat) (pins:List (Addr × Obj)) (s:Shared) (σ:St) (H:Hp) (E:Value->Shared->Prop),Inv X pins σ H s->(∀b∈fp,FpOk X pins H b)->tn i s.heap->J.stop i H->
  wpAny (model P w) X.A (pyNext (.ref it)) (fun r s1=>r=none/\Inv X pins σ H s1) E s
 self:∀(A:Around) (i:Nat) (s:Shared) (Q:Value->Shared->Prop) (E:Value->Shared->Prop),tn i s.heap->Q (.ref it) s->wpAny (model P w) A (pyIter (.ref it)) Q E s
abbrev TI:=St->Hp->(It->Hp->Prop)->Prop
def PIE (X:Cx) (pins:List (Addr × Obj)) (σ:St) (tg:Expr) (R:It->Hp->Prop) (itv:Value) (s2:Shared):Prop:=
 ∃(it:Addr) (fp:List Addr) (tn:Nat->Heap->Prop) (J:It) (H':Hp),itv=.ref it/\Inv X pins σ H' s2/\Turn X.prog X.w X.K tg J fp it tn/\tn 0 s2.heap/\(∀b∈fp,FpOk X pins H' b)/\R J H'
def PI (X:Cx) (tg iter:Expr) (wi:TI):Prop:=
 ∀(pins:List (Addr × Obj)) (s:Shared) (σ:St) (H:Hp) (R:It->Hp->Prop),Inv X pins σ H s->wi σ H R->
  wpAny (model X.prog X.w) X.A (eval iter X.env) (fun v s1=>wpAny (model X.prog X.w) X.A (pyIter v) (PIE X pins σ tg R) X.xe s1) X.xe s
theorem go_of {M : Model} {A : Around} {E : Value → Shared → Prop} {s : Shared} {tg : Expr} {it : Addr} {u : Value} {o : Obj} {n : String} {vs : Array Value} {Q : Unit → Shared → Prop} (ho : s.heap.get? it = some o) (hc : o.cls = .type n) (hd : o.data = .fields vs)
    (hn : ["enumerate", "zip", "dict_itemiterator", "dict_reverseitemiterator", "odict_iterator", "itertools.zip_longest", "itertools.pairwise"].contains n = false) (hQ : Q () s) : wpAny M A (letOwnedTupleGo tg (.ref it) u) Q E s := by
  unfold letOwnedTupleGo
  cases tg <;> first
    | exact wpAny_pure hQ
    | (cases u <;> first
        | exact wpAny_pure hQ
        | (refine wpAny_bind (wpAny_load ho ?_)
           rw [hc, hd]
           show wpAny M A (if (["enumerate", "zip", "dict_itemiterator", "dict_reverseitemiterator", "odict_iterator", "itertools.zip_longest", "itertools.pairwise"].contains n && vs[0]? == some (rawInt _)) = true then _ else _) Q E s
           rw [if_neg (by intro h; rw [hn, Bool.false_and] at h; cases h)]
           exact wpAny_pure hQ))
def Itl (K:PySem.W.Frag) (a:Addr):It:=
 ⟨fun i H=>∃xs x,SqL K H a xs/\xs[i]? = some x,fun i H x H'=>H'=H/\∀xs,SqL K H a xs->xs[i]? = some x,fun i H=>∃xs,SqL K H a xs/\xs.length<=i⟩
def Itr (lo:Int) (n:Nat):It:=⟨fun i _=>i<n,fun i H x H'=>H'=H/\x=.int (lo+i),fun i _=>n<=i⟩
theorem turn_list {P:Program} {w:World} {K:PySem.W.Frag} {tg:Expr} (a it:Addr):Turn P w K tg (Itl K a) [it] it (fun i h=>h.IsListIter it a i) where
 mem:=by simp
 obj:=fun i h st b hb=>by
  have e:b=it:=by simpa using hb
  subst e
  obtain ⟨o,e,c,d⟩:=st
  exact ⟨o,e,fun v z=>by rw [d] at z;cases z⟩
 keep:=fun i h h' st k=>st.at fun o e=>k it (by simp) o e
 item:=by
  intro X hP hw hK hc i pins s σ H E I hf st hg
  subst hP hw hK
  obtain ⟨xs,x,hq,hx⟩:=hg
  obtain ⟨its,rv,p,hz⟩:=I.list hq
  obtain ⟨u,hu,ru⟩:=rv.get hx
  obtain ⟨f0,f1,f2,f3,f4,f5⟩:=hf it (by simp)
  refine wpAny_pyNext_list_item st p.isList (x:=u) (by simpa using hu) fun h' st' sb=>?_
  have I1:Inv X pins σ H { s with heap:=h' }:=I.turned (t':=s.toks) (fun b o hb e=>(sb.2 b hb).trans e) f0 f1 f3 f4 f5
  obtain ⟨o,e,c,d⟩:=id st'
  exact ⟨u,rfl,go_of (s:={ s with heap:=h' }) e c d (by decide) ⟨x,H,I1,ru,⟨rfl,fun ys hy=>by rw [I.list_inj hy hq];exact hx⟩,st',fun b hb=>(hf b hb).1⟩⟩
 done:=by
  intro X hP hw hK hc i pins s σ H E I hf st hg
  subst hP hw hK
  obtain ⟨xs,hq,hx⟩:=hg
  obtain ⟨its,rv,p,hz⟩:=I.list hq
  obtain ⟨f0,f1,f2,f3,f4,f5⟩:=hf it (by simp)
  have hl:=rv.length
  exact wpAny_pyNext_list_end (I.ok.hd hc) st p.isList (by simp;omega) fun h' eb=>⟨rfl,I.turned (t':=s.toks) (fun b o hb e=>eb b o hb e) f0 f1 f3 f4 f5⟩
 self:=fun _ _ _ _ _ st h=>wpAny_pyIter_listiter st h
theorem turn_range {P:Program} {w:World} {K:PySem.W.Frag} {tg:Expr} (it:Addr) (lo:Int) (n:Nat):Turn P w K tg (Itr lo n) [it] it (fun i h=>IsRangeIter h it (lo+(i:Nat) * 1) ((n:Int) - (i:Nat)) 1) where
 mem:=by simp
 obj:=fun i h st b hb=>by
  have e:b=it:=by simpa using hb
  subst e
  exact ⟨_,st,fun v z=>by
   have z':Data.fields _=Data.cell v:=z
   cases z'⟩
 keep:=fun i h h' st k=>k it (by simp) _ st
 item:=by
  intro X hP hw hK hc i pins s σ H E I hf st hg
  subst hP hw hK
  obtain ⟨f0,f1,f2,f3,f4,f5⟩:=hf it (by simp)
  have W:=Walks.range (prog:=X.prog) (w:=X.w) (I.ok.hd hc) it lo 1 n
  refine W.item i s _ _ hg st fun v h' tk hv st' kk=>?_
  obtain ⟨t,rfl⟩:=hv
  have I1:Inv X pins σ H { s with heap:=h',toks:=tk }:=I.turned (fun b o hb e=>kk b o (by simpa using hb) e) f0 f1 f3 f4 f5
  refine ⟨_,rfl,go_of (s:={ s with heap:=h',toks:=tk }) (n:="range_iterator") st' rfl rfl (by decide) ⟨.int (lo+i),H,I1,⟨t,?_⟩,⟨rfl,rfl⟩,st',fun b hb=>(hf b hb).1⟩⟩
  rw [Int.mul_one]
 done:=by
  intro X hP hw hK hc i pins s σ H E I hf st hg
  subst hP hw hK
  obtain ⟨f0,f1,f2,f3,f4,f5⟩:=hf it (by simp)
  exact wpAny_pyNext_range_end (I.ok.hd hc) st (by have:n<=i:=hg;omega) fun h' eb=>⟨rfl,I.turned (t':=s.toks) (fun b o hb e=>eb b o hb e) f0 f1 f3 f4 f5⟩
 self:=fun _ _ _ _ _ st h=>wpAny_pyIter_rangeiter st h
section
variable {X:Cx} {tg:Expr}
def iList (K:PySem.W.Frag) (tl:TE):TI:=fun σ H R=>tl σ H fun x H1=>∃a,x=.ref a/\(∃xs,SqL K H1 a xs)/\R (Itl K a) H1
theorem pi_list {l:Expr} {tl:TE} (hl:PE X l tl):PI X tg l (iList X.K tl):=by
 intro pins s σ H R I h
 refine thn (hl pins s σ H _ I h) fun v s1 ⟨x,H1,I1,r1,q1⟩=>?_
 obtain ⟨a,e,⟨xs,hq⟩,q⟩:=q1
 subst e
 cases r1
 obtain ⟨its,rv,p,hz⟩:=I1.list hq
 refine wpAny_pyIter_list p.isList ?_
 refine ⟨s1.heap.objs.size,[s1.heap.objs.size],_,_,H1,rfl,I1.kept (t':=s1.toks) fun b o e=>Heap.get?_push_of_some _ e,turn_list a _,⟨_,Heap.get?_push_size _ rfl,rfl,rfl⟩,fun b hb=>?_,q⟩
 have e:b=s1.heap.objs.size:=by simpa using hb
 subst e
 exact I1.fpOk (Nat.le_refl _) (I1.hok.fresh (Nat.le_refl _))
theorem range_it {pins:List (Addr × Obj)} {σ:St} {H:Hp} {s:Shared} {R:It->Hp->Prop} {E:Value->Shared->Prop} {lo hi:Int} {t u v:Tok} {tk:Nat} (I:Inv X pins σ H s) (h1:-(2 ^ 62)<=lo) (h2:lo<2 ^ 62) (h3:-(2 ^ 62)<=hi) (h4:hi<2 ^ 62)
  (q:R (Itr lo (hi - lo).toNat) H):wpAny (model X.prog X.w) X.A (pyIter (.ref s.heap.objs.size)) (PIE X pins σ tg R) E { s with heap:=s.heap.push { cls:=.type "range",data:=.fields #[.int lo t,.int hi u,.int 1 v] },toks:=tk }:=by
 refine wpAny_pyIter_range (IsRange.new ..) (small_one h1 h2 h3 h4) ?_
 have I1:Inv X pins σ H { s with heap:=s.heap.push { cls:=.type "range",data:=.fields #[.int lo t,.int hi u,.int 1 v] },toks:=tk }:=I.kept fun b o e=>Heap.get?_push_of_some _ e
 refine ⟨(s.heap.push { cls:=.type "range",data:=.fields #[.int lo t,.int hi u,.int 1 v] }).objs.size,[(s.heap.push { cls:=.type "range",data:=.fields #[.int lo t,.int hi u,.int 1 v] }).objs.size],_,_,H,rfl,
  I1.kept (t':=tk) fun b o e=>Heap.get?_push_of_some _ e,turn_range _ lo (hi - lo).toNat,?_,fun b hb=>?_,q⟩
 ·have e1:lo+((0:Nat):Int) * 1=lo:=by simp
  have e2:(((hi - lo).toNat:Nat):Int) - ((0:Nat):Int)=Builtin.Range.rangeSize lo hi 1:=by rw [rangeSize_one];split<;>omega
  show IsRangeIter _ _ (lo+((0:Nat):Int) * 1) ((((hi - lo).toNat:Nat):Int) - ((0:Nat):Int)) 1
  rw [e1,e2]
  exact Heap.get?_push_size _ rfl
 ·have e:b=(s.heap.push { cls:=.type "range",data:=.fields #[.int lo t,.int hi u,.int 1 v] }).objs.size:=by simpa using hb
  subst e
  exact I1.fpOk (Nat.le_refl _) (I1.hok.fresh (Nat.le_refl _))
def iRng1 (ta:TA):TI:=fun σ H R=>ta σ H fun vs H1=>∃j:Int,vs=[.int j]/\-(2 ^ 62)<=j/\j<2 ^ 62/\R (Itr 0 j.toNat) H1
theorem pi_range1 {a:Expr} {ta:TA} {p pos:Pos} (hg:Gl X "range") (hm:X.mg "range"=none) (ha:PA X [a] ta) (hs:starEach [a] X.env=[(false,eval a X.env)]:=by rfl):PI X tg (.Call (.Name "range" p) [a] [] pos) (iRng1 ta):=by
 intro pins s σ H R I h
 refine Call_ (ld_blt I hg hm boot_range (PyProof.Rows.callWith_type1 (thn (ha pos pins s σ H _ I h) fun us s1 ⟨vs,H1,I1,r1,q1⟩=>?_) hs rfl))
 obtain ⟨j,e,q1,q2,q⟩:=q1
 subst e
 cases r1 with
 | cons r rr=>
  cases rr
  obtain ⟨t,rfl⟩:=r
  exact call_range_1 (range_it I1 (by omega) (by omega) q1 q2 (by simpa using q))
def tFor (wi:TI) (g:TG) (tb:TS):TS:=fun D σ H=>wi σ H fun J H1=>∃W:Nat->Nat->St->Hp->Prop,(∃m,W 0 m σ H1)/\∀i m σ H,W i m σ H->
 (J.stop i H/\D.nx σ H)\/(J.go i H/\∃N:St->Hp->Prop,(∀σ' H',N σ' H'->∃m',m'<m/\W (i+1) m' σ' H')/\∀x H',J.yld i H x H'->g x σ H' fun σ2 H2=>tb { D with nx:=N,ct:=N,bk:=D.nx } σ2 H2)
def pinsAt (fp:List Addr) (h:Heap):List (Addr × Obj):=fp.filterMap fun b=>(h.get? b).map fun o=>(b,o)
theorem mem_pinsAt {fp:List Addr} {h:Heap} {b:Addr} {o:Obj} (hb:b∈fp) (e:h.get? b=some o):(b,o)∈pinsAt fp h:=List.mem_filterMap.mpr ⟨b,hb,by rw [e];rfl⟩
theorem of_pinsAt {fp:List Addr} {h:Heap} {p:Addr × Obj} (hp:p∈pinsAt fp h):p.1∈fp/\h.get? p.1=some p.2:=by
 obtain ⟨b,hb,e⟩:=List.mem_filterMap.mp hp
 cases q:h.get? b with
 | none=>rw [q] at e;cases e
 | some o=>
  rw [q] at e
  have e':(b,o)=p:=Option.some.inj e
  subst e'
  exact ⟨hb,q⟩
theorem Inv.pinned {pins:List (Addr × Obj)} {σ:St} {H:Hp} {s:Shared} {fp:List Addr} (I:Inv X pins σ H s) (hf:∀b∈fp,FpOk X pins H b) (ho:∀b∈fp,∃o,s.heap.get? b=some o/\∀v,o.data≠.cell v):Inv X (pins++pinsAt fp s.heap) σ H s:=
 I.pins_of fun p hp=>(List.mem_append.mp hp).elim (fun z=>I.pin p (List.mem_append_right _ z)) fun z=>by
  obtain ⟨hb,e⟩:=of_pinsAt z
  obtain ⟨f0,f1,f2,_⟩:=hf p.1 hb
  obtain ⟨o,e',d⟩:=ho p.1 hb
  rw [e] at e';cases e'
  exact ⟨e,f0,f1,f2,d⟩
theorem Inv.unpinned {pins pl:List (Addr × Obj)} {σ:St} {H:Hp} {s:Shared} (I:Inv X (pins++pl) σ H s):Inv X pins σ H s:=I.pins_of fun p hp=>I.pin p (List.mem_append_right _ (List.mem_append_left _ hp))
theorem ps_for {iter:Expr} {body:List Stmt} {wi:TI} {g:TG} {tb:TS} {pos:Pos} (hp:PassesOwn (model X.prog X.w) X.A X.env X.xe) (hc:X.calm=true) (hi:PI X tg iter wi) (hg:PG X tg g) (hb:PSs X body tb)
  (hs:∀x,foldedSetIterable iter X.env x=pure x:=by intro _;rfl):PS X (.For tg iter body [] pos) (tFor wi g tb):=by
 intro pins s σ H D I h
 refine wpAny_For (thn (hi pins s σ H _ I h) fun v s1 h1=>thn h1 fun itv s2 h2=>?_) hs
 obtain ⟨it,fp,tn,J,H2,e,I2,T,st2,f2,W,⟨m0,w0⟩,turn⟩:=h2
 subst e
 -- what stays true of the iterator's objects through the loop
 have stat:∀{H':Hp},(∀b∈fp,H' b=none)->∀b∈fp,FpOk X pins H' b:=fun hn b hb=>⟨hn b hb,(f2 b hb).2⟩
 refine codeAny_forLoop_any (fun n s'=>∃i σ' H',Inv X pins σ' H' s'/\tn i s'.heap/\(∀b∈fp,H' b=none)/\W i n σ' H') ?_ m0 ⟨0,σ,H2,I2,st2,fun b hb=>(f2 b hb).1,w0⟩
 rintro n s3 ⟨i,σ3,H3,I3,st3,fr3,w3⟩
 rcases turn i n σ3 H3 w3 with ⟨stop,qn⟩|⟨go,N,hN,step⟩
 ·refine wpAny_passesOwn hp (thn (T.done X rfl rfl rfl hc i pins s3 σ3 H3 X.xe I3 (stat fr3) st3 stop) fun r s4 ⟨hr,I4⟩=>?_)
  subst hr
  exact wpAny_execs_nil ⟨σ3,H3,I4,qn⟩
 ·refine wpAny_passesOwn hp (thn (T.item X rfl rfl rfl hc i pins s3 σ3 H3 X.xe I3 (stat fr3) st3 go) fun r s4 ⟨u,hr,h4⟩=>?_)
  subst hr
  refine wpAny_passesOwn hp (thn h4 fun _ s5 ⟨x,H5,I5,r5,y5,st5,fr5⟩=>?_)
  have I5':=I5.pinned (stat fr5) (T.obj _ _ st5)
  refine wpAny_passesOwn hp (thn (hg _ s5 σ3 H5 x u _ I5' r5 (step x H5 y5)) fun _ s6 ⟨σ6,H6,I6,q6⟩=>?_)
  refine wpAny_passesOwn hp (thn (hb _ s6 σ6 H6 _ I6 q6) fun f s7 q7=>?_)
  have again:∀{σ7:St} {H7:Hp},Inv X (pins++pinsAt fp s5.heap) σ7 H7 s7->N σ7 H7->∃m,m<n/\∃i σ' H',Inv X pins σ' H' s7/\tn i s7.heap/\(∀b∈fp,H' b=none)/\W i m σ' H':=fun {σ7 H7} I7 n7=>by
   obtain ⟨m',hm,w7⟩:=hN σ7 H7 n7
   refine ⟨m',hm,i+1,σ7,H7,I7.unpinned,T.keep _ _ _ st5 fun b hb o e=>(I7.pin (b,o) (List.mem_append_right _ (List.mem_append_right _ (mem_pinsAt hb e)))).1,fun b hb=>?_,w7⟩
   obtain ⟨o,e,d⟩:=T.obj _ _ st5 b hb
   exact (I7.pin (b,o) (List.mem_append_right _ (List.mem_append_right _ (mem_pinsAt hb e)))).2.1
  cases f with
  | next=>obtain ⟨σ7,H7,I7,n7⟩:=q7;exact again I7 n7
  | cont=>obtain ⟨σ7,H7,I7,n7⟩:=q7;exact again I7 n7
  | brk=>obtain ⟨σ7,H7,I7,q7⟩:=q7;exact ⟨σ7,H7,I7.unpinned,q7⟩
  | ret v=>obtain ⟨x7,σ7,H7,I7,r7,q7⟩:=q7;exact ⟨x7,σ7,H7,I7.unpinned,r7,q7⟩
end
abbrev R2:=V->V->Hp->VK->Prop
def OpR (X:Cx) (f:Value->Value->Sem Value) (r:R2):Prop:=
 ∀(pins:List (Addr × Obj)) (s:Shared) (σ:St) (H:Hp) (x y:V) (v u:Value) (Q:VK),Inv X pins σ H s->RelV x v->RelV y u->r x y H Q->
  wpAny (model X.prog X.w) X.A (f v u) (EP X pins σ Q) X.xe s
def UnR (X:Cx) (f:Value->Sem Value) (r:V->Hp->VK->Prop):Prop:=
 ∀(pins:List (Addr × Obj)) (s:Shared) (σ:St) (H:Hp) (x:V) (v:Value) (Q:VK),Inv X pins σ H s->RelV x v->r x H Q->
  wpAny (model X.prog X.w) X.A (f v) (EP X pins σ Q) X.xe s
def CallR (X:Cx) (f:Value) (r:List V->Hp->VK->Prop):Prop:=
 ∀(pins:List (Addr × Obj)) (s:Shared) (σ:St) (H:Hp) (xs:List V) (us:List Value) (Q:VK),Inv X pins σ H s->Vals xs us->r xs H Q->
  wpAny (model X.prog X.w) X.A (call f us) (EP X pins σ Q) X.xe s
def tOp (r:R2) (ta tb:TE):TE:=fun σ H Q=>ta σ H fun x H1=>tb σ H1 fun y H2=>r x y H2 Q
def tUn (r:V->Hp->VK->Prop) (ta:TE):TE:=fun σ H Q=>ta σ H fun x H1=>r x H1 Q
def rI (C:Int->Int->Prop) (g:Int->Int->V):R2:=fun x y H Q=>∃i j,x=.int i/\y=.int j/\C i j/\Q (g i j) H
def rI0 (g:Int->Int->V):R2:=fun x y H Q=>∃i j,x=.int i/\y=.int j/\Q (g i j) H
def rU (g:Int->V):V->Hp->VK->Prop:=fun x H Q=>∃i,x=.int i/\Q (g i) H
section
variable {X:Cx} {a b c:Expr} {ta tb tc:TE} {pos:Pos}
theorem binT (ha:PE X a ta) (hb:PE X b tb) {pins:List (Addr × Obj)} {s:Shared} {σ:St} {H:Hp} {R:V->V->Hp->Prop} (I:Inv X pins σ H s)
  (h:ta σ H fun x H1=>tb σ H1 fun y H2=>R x y H2) {Q:Value->Shared->Prop} {f:Value->Value->Sem Value}
  (hf:∀v u s2 x y H2,Inv X pins σ H2 s2->RelV x v->RelV y u->R x y H2->wpAny (model X.prog X.w) X.A (f v u) Q X.xe s2) :
  wpAny (model X.prog X.w) X.A (eval a X.env) (fun v s₁=>wpAny (model X.prog X.w) X.A (eval b X.env) (fun u s₂=>wpAny (model X.prog X.w) X.A (f v u) Q X.xe s₂) X.xe s₁) X.xe s:=by
 refine thn (ha pins s σ H _ I h) fun v s1 ⟨x,H1,I1,r1,q1⟩=>?_
 refine thn (hb pins s1 σ H1 _ I1 q1) fun u s2 ⟨y,H2,I2,r2,q2⟩=>?_
 exact hf v u s2 x y H2 I2 r1 r2 q2
theorem pe_op {op:Operator} {r:R2} (ho:OpR X (binaryOp op) r) (ha:PE X a ta) (hb:PE X b tb):PE X (.BinOp a op b pos) (tOp r ta tb):=by
 intro pins s σ H Q I h
 exact wpAny_BinOp (binT ha hb I h fun v u s2 x y H2 I2 rx ry q=>ho pins s2 σ H2 x y v u Q I2 rx ry q)
theorem pe_un {op:UnaryOp} {r:V->Hp->VK->Prop} (ho:UnR X (unaryOp op) r) (ha:PE X a ta):PE X (.UnaryOp op a pos) (tUn r ta):=by
 intro pins s σ H Q I h
 exact UnaryOp_ (thn (ha pins s σ H _ I h) fun v s1 ⟨x,H1,I1,r1,q1⟩=>ho pins s1 σ H1 x v Q I1 r1 q1)
theorem opI {f:Value->Value->Sem Value} {C:Int->Int->Prop} {g:Int->Int->Int}
  (rule:∀(i j:Int) (t u:Tok) (s:Shared) (Q:Value->Shared->Prop) (E:Value->Shared->Prop),C i j->Q (.int (g i j) s.toks) { s with toks:=s.toks+1 }->wpAny (model X.prog X.w) X.A (f (.int i t) (.int j u)) Q E s) :
  OpR X f (rI C fun i j=>.int (g i j)):=by
 intro pins s σ H x y v u Q I rx ry h
 obtain ⟨i,j,rfl,rfl,hc,q⟩:=h
 obtain ⟨t,rfl⟩:=rx
 obtain ⟨t',rfl⟩:=ry
 exact rule i j t t' s _ _ hc ⟨.int (g i j),H,I.tok _,⟨_,rfl⟩,q⟩
theorem opI0 {f:Value->Value->Sem Value} {g:Int->Int->Int}
  (rule:∀(i j:Int) (t u:Tok) (s:Shared) (Q:Value->Shared->Prop) (E:Value->Shared->Prop),Q (.int (g i j) s.toks) { s with toks:=s.toks+1 }->wpAny (model X.prog X.w) X.A (f (.int i t) (.int j u)) Q E s) :
  OpR X f (rI0 fun i j=>.int (g i j)):=by
 intro pins s σ H x y v u Q I rx ry h
 obtain ⟨i,j,rfl,rfl,q⟩:=h
 obtain ⟨t,rfl⟩:=rx
 obtain ⟨t',rfl⟩:=ry
 exact rule i j t t' s _ _ ⟨.int (g i j),H,I.tok _,⟨_,rfl⟩,q⟩
theorem opB0 {f:Value->Value->Sem Value} {g:Int->Int->Bool}
  (rule:∀(i j:Int) (t u:Tok) (s:Shared) (Q:Value->Shared->Prop) (E:Value->Shared->Prop),Q (.bool (g i j)) s->wpAny (model X.prog X.w) X.A (f (.int i t) (.int j u)) Q E s) :
  OpR X f (rI0 fun i j=>.bl (g i j)):=by
 intro pins s σ H x y v u Q I rx ry h
 obtain ⟨i,j,rfl,rfl,q⟩:=h
 obtain ⟨t,rfl⟩:=rx
 obtain ⟨t',rfl⟩:=ry
 exact rule i j t t' s _ _ ⟨.bl (g i j),H,I,rfl,q⟩
def CPow (i j:Int):Prop:=0<=j/\j<=1000000/\i.natAbs<2 ^ 64
def CMul (i j:Int):Prop:=(-(2 ^ 64)<i/\i<2 ^ 64)\/(-(2 ^ 64)<j/\j<2 ^ 64)
theorem CMul.ok {i j:Int} (h:CMul i j):IntMulOk i j:=by
 rcases h with ⟨h1,h2⟩|⟨h1,h2⟩
 ·exact .of_left (intBits_le_64 h1 h2)
 ·exact .of_right (intBits_le_64 h1 h2)
theorem op_add:OpR X (binaryOp .Add) (rI0 fun i j=>.int (i+j)):=opI0 fun _ _ _ _ _ _ _ q=>add_int q
theorem op_sub:OpR X (binaryOp .Sub) (rI0 fun i j=>.int (i - j)):=opI0 fun _ _ _ _ _ _ _ q=>sub_int q
theorem op_mul:OpR X (binaryOp .Mult) (rI CMul fun i j=>.int (i * j)):=opI fun _ _ _ _ _ _ _ hc q=>mul_int q hc.ok
theorem op_mod:OpR X (binaryOp .Mod) (rI (fun _ j=>0<j) fun i j=>.int (i % j)):=opI fun i j _ _ _ _ _ hc q=>by
 have h1:(0:Int)<j:=hc
 exact mod_int' (by omega) (by rw [Int.fmod_eq_emod_of_nonneg i (by omega)];exact q)
theorem op_pow:OpR X (binaryOp .Pow) (rI CPow fun i j=>.int (i ^ j.toNat)):=opI fun _ _ _ _ _ _ _ hc q=>pow_int_small hc.1 hc.2.1 hc.2.2 q
theorem unI {f:Value->Sem Value} {g:Int->Int}
  (rule:∀(i:Int) (t:Tok) (s:Shared) (Q:Value->Shared->Prop) (E:Value->Shared->Prop),Q (.int (g i) s.toks) { s with toks:=s.toks+1 }->wpAny (model X.prog X.w) X.A (f (.int i t)) Q E s) :
  UnR X f (rU fun i=>.int (g i)):=by
 intro pins s σ H x v Q I rx h
 obtain ⟨i,rfl,q⟩:=h
 obtain ⟨t,rfl⟩:=rx
 exact rule i t s _ _ ⟨.int (g i),H,I.tok _,⟨_,rfl⟩,q⟩
theorem un_neg:UnR X (unaryOp .USub) (rU fun i=>.int (-i)):=unI fun _ _ _ _ _ q=>neg_int q
end
def scal:V->V->Bool
 | .non,.non=>true|.non,.int _=>true|.int _,.non=>true|.non,.bl _=>true|.bl _,.non=>true|.non,.str _=>true|.str _,.non=>true
 | .int _,.int _=>true|.bl _,.bl _=>true|.str _,.str _=>true|.byt _,.byt _=>true
 | .int _,.str _=>true|.str _,.int _=>true|.bl _,.str _=>true|.str _,.bl _=>true
 | _,_=>false
def rEq:R2:=fun x y H Q=>scal x y=true/\Q (.bl (decide (x=y))) H
def rNe:R2:=fun x y H Q=>scal x y=true/\Q (.bl (!decide (x=y))) H
theorem dec_int {i j:Int}:decide (V.int i=V.int j)=(i == j):=by
 rw [Bool.eq_iff_iff]
 simp
theorem dec_bl {i j:Bool}:decide (V.bl i=V.bl j)=(i == j):=by
 rw [Bool.eq_iff_iff]
 simp
theorem dec_str {i j:Str}:decide (V.str i=V.str j)=(i == j):=by
 rw [Bool.eq_iff_iff]
 simp
theorem dec_byt {i j:Array UInt8}:decide (V.byt i=V.byt j)=(i.toList == j.toList):=by
 rw [Bool.eq_iff_iff]
 cases i
 cases j
 simp
section
variable {X:Cx} {a b c:Expr} {ta tb tc:TE} {pos:Pos}
theorem fin_bl {pins:List (Addr × Obj)} {σ:St} {H:Hp} {s:Shared} {Q:VK} {k k':Bool} (I:Inv X pins σ H s) (q:Q (.bl k) H) (e:k=k'):EP X pins σ Q (.bool k') s:=by
 subst e
 exact ⟨.bl k,H,I,rfl,q⟩
theorem op_eq:OpR X (compareOp .Eq) rEq:=by
 intro pins s σ H x y v u Q I rx ry h
 obtain ⟨hs,q⟩:=h
 cases x with
 | non=>
  cases rx
  cases y with
  | non=>cases ry;exact PySem.EqNone.eq_none_none (fin_bl I q (by simp))
  | bl j=>cases ry;exact PySem.EqNone.eq_none_bool (fin_bl I q (by simp))
  | int j=>obtain ⟨t',rfl⟩:=ry;exact PySem.EqNone.eq_none_int (fin_bl I q (by simp))
  | str j=>obtain ⟨t',rfl⟩:=ry;exact PySem.EqNone.eq_none_str (fin_bl I q (by simp))
  | _=>exact absurd (show false=true from hs) Bool.false_ne_true
 | bl i=>
  cases rx
  cases y with
  | non=>cases ry;exact PySem.EqNone.eq_bool_none (fin_bl I q (by simp))
  | bl j=>cases ry;exact eq_bool (fin_bl I q dec_bl)
  | str j=>obtain ⟨t',rfl⟩:=ry;exact PySem.EqMixed.eq_bool_str (fin_bl I q (by simp))
  | _=>exact absurd (show false=true from hs) Bool.false_ne_true
 | int i=>
  obtain ⟨t,rfl⟩:=rx
  cases y with
  | non=>cases ry;exact PySem.EqNone.eq_int_none (fin_bl I q (by simp))
  | int j=>obtain ⟨t',rfl⟩:=ry;exact eq_int (fin_bl I q dec_int)
  | str j=>obtain ⟨t',rfl⟩:=ry;exact PySem.EqMixed.eq_int_str (fin_bl I q (by simp))
  | _=>exact absurd (show false=true from hs) Bool.false_ne_true
 | str i=>
  obtain ⟨t,rfl⟩:=rx
  cases y with
  | non=>cases ry;exact PySem.EqNone.eq_str_none (fin_bl I q (by simp))
  | bl j=>cases ry;exact PySem.EqMixed.eq_str_bool (fin_bl I q (by simp))
  | int j=>obtain ⟨t',rfl⟩:=ry;exact PySem.EqMixed.eq_str_int (fin_bl I q (by simp))
  | str j=>obtain ⟨t',rfl⟩:=ry;exact eq_str (fin_bl I q dec_str)
  | _=>exact absurd (show false=true from hs) Bool.false_ne_true
 | byt i=>
  obtain ⟨t,rfl⟩:=rx
  cases y with
  | byt j=>obtain ⟨t',rfl⟩:=ry;exact PySem.W.eq_bytes (fin_bl I q dec_byt)
  | _=>exact absurd (show false=true from hs) Bool.false_ne_true
 | _=>cases y<;>exact absurd (show false=true from hs) Bool.false_ne_true
theorem op_ne:OpR X (compareOp .NotEq) rNe:=by
 intro pins s σ H x y v u Q I rx ry h
 obtain ⟨hs,q⟩:=h
 cases x with
 | non=>
  cases rx
  cases y with
  | non=>cases ry;exact PySem.EqNone.ne_none_none (fin_bl I q (by simp))
  | bl j=>cases ry;exact PySem.EqNone.ne_none_bool (fin_bl I q (by simp))
  | int j=>obtain ⟨t',rfl⟩:=ry;exact PySem.EqNone.ne_none_int (fin_bl I q (by simp))
  | str j=>obtain ⟨t',rfl⟩:=ry;exact PySem.EqNone.ne_none_str (fin_bl I q (by simp))
  | _=>exact absurd (show false=true from hs) Bool.false_ne_true
 | bl i=>
  cases rx
  cases y with
  | non=>cases ry;exact PySem.EqNone.ne_bool_none (fin_bl I q (by simp))
  | bl j=>cases ry;exact ne_bool (fin_bl I q (congrArg not dec_bl))
  | str j=>obtain ⟨t',rfl⟩:=ry;exact PySem.EqMixed.ne_bool_str (fin_bl I q (by simp))
  | _=>exact absurd (show false=true from hs) Bool.false_ne_true
 | int i=>
  obtain ⟨t,rfl⟩:=rx
  cases y with
  | non=>cases ry;exact PySem.EqNone.ne_int_none (fin_bl I q (by simp))
  | int j=>obtain ⟨t',rfl⟩:=ry;exact ne_int (fin_bl I q (congrArg not dec_int))
  | str j=>obtain ⟨t',rfl⟩:=ry;exact PySem.EqMixed.ne_int_str (fin_bl I q (by simp))
  | _=>exact absurd (show false=true from hs) Bool.false_ne_true
 | str i=>
  obtain ⟨t,rfl⟩:=rx
  cases y with
  | non=>cases ry;exact PySem.EqNone.ne_str_none (fin_bl I q (by simp))
  | bl j=>cases ry;exact PySem.EqMixed.ne_str_bool (fin_bl I q (by simp))
  | int j=>obtain ⟨t',rfl⟩:=ry;exact PySem.EqMixed.ne_str_int (fin_bl I q (by simp))
  | str j=>obtain ⟨t',rfl⟩:=ry;exact ne_str (fin_bl I q (congrArg not dec_str))
  | _=>exact absurd (show false=true from hs) Bool.false_ne_true
 | byt i=>
  obtain ⟨t,rfl⟩:=rx
  cases y with
  | byt j=>obtain ⟨t',rfl⟩:=ry;exact PySem.W.ne_bytes (fin_bl I q (congrArg not dec_byt))
  | _=>exact absurd (show false=true from hs) Bool.false_ne_true
 | _=>cases y<;>exact absurd (show false=true from hs) Bool.false_ne_true
theorem op_lt:OpR X (compareOp .Lt) (rI0 fun i j=>.bl (decide (i<j))):=opB0 fun _ _ _ _ _ _ _ q=>lt_int q
theorem op_le:OpR X (compareOp .LtE) (rI0 fun i j=>.bl (decide (i<=j))):=opB0 fun _ _ _ _ _ _ _ q=>le_int q
theorem op_gt:OpR X (compareOp .Gt) (rI0 fun i j=>.bl (decide (j<i))):=opB0 fun _ _ _ _ _ _ _ q=>gt_int q
theorem op_ge:OpR X (compareOp .GtE) (rI0 fun i j=>.bl (decide (j<=i))):=opB0 fun _ _ _ _ _ _ _ q=>ge_int q
theorem op_in_str:OpR X (compareOp .In) (fun x y H Q=>∃i j,x=.str i/\y=.str j/\Q (.bl (!(Builtin.Str.occurrences j i 0 j.length 1).isEmpty)) H):=by
 intro pins s σ H x y v u Q I rx ry h
 obtain ⟨i,j,rfl,rfl,q⟩:=h
 obtain ⟨t,rfl⟩:=rx
 obtain ⟨t',rfl⟩:=ry
 exact in_str (fin_bl I q rfl)
theorem OpR.or {f:Value->Value->Sem Value} {r r':R2} (h:OpR X f r) (h':OpR X f r'):OpR X f (fun x y H Q=>r x y H Q\/r' x y H Q):=by
 intro pins s σ H x y v u Q I rx ry q
 rcases q with q|q
 ·exact h pins s σ H x y v u Q I rx ry q
 ·exact h' pins s σ H x y v u Q I rx ry q
theorem nomark (b:Expr) {op:CmpOp} (h:op≠.In:=by decide) (h2:op≠.NotIn:=by decide):behindInMarks op b=false:=by
 have e1:(op == CmpOp.In)=false:=by cases op<;>first|rfl|exact absurd rfl h
 have e2:(op == CmpOp.NotIn)=false:=by cases op<;>first|rfl|exact absurd rfl h2
 cases b<;>simp [behindInMarks,e1,e2]
theorem pe_cmpR {op:CmpOp} {r:R2} (ho:OpR X (compareOp op) r) (ha:PE X a ta) (hb:PE X b tb) (hm:behindInMarks op b=false):PE X (.Compare a [op] [b] pos) (tOp r ta tb):=by
 intro pins s σ H Q I h
 exact wpAny_Compare1 (binT ha hb I h fun v u s2 x y H2 I2 rx ry q=>ho pins s2 σ H2 x y v u Q I2 rx ry q) hm
def tTest (t:TE):TT:=fun σ H Q=>t σ H fun x H'=>∃k,x=.bl k/\Q k H'
theorem pt_cmpR {op:CmpOp} {r:R2} (ho:OpR X (compareOp op) r) (ha:PE X a ta) (hb:PE X b tb) (hm:behindInMarks op b=false):PT X (.Compare a [op] [b] pos) (tTest (tOp r ta tb)):=by
 intro pins s σ H Q I h
 refine wpAny_isTrue_Compare1 (thn (ha pins s σ H _ I h) fun v s1 ⟨x,H1,I1,r1,q1⟩=>thn (hb pins s1 σ H1 _ I1 q1) fun u s2 ⟨y,H2,I2,r2,q2⟩=>
  thn (ho pins s2 σ H2 x y v u _ I2 r1 r2 q2) fun c s3 ⟨z,H3,I3,r3,k,e,q3⟩=>?_) hm
 subst e
 cases r3
 exact wpAny_truthy_bool ⟨H3,I3,q3⟩
def tChain (r r':R2) (ta tb tc:TE):TE:=fun σ H Q=>ta σ H fun x H1=>tb σ H1 fun y H2=>r x y H2 fun z H3=>∃k,z=.bl k /\
 (if k=true then tc σ H3 fun w' H4=>r' y w' H4 Q else Q (.bl false) H3)
theorem pt_chain {op op':CmpOp} {r r':R2} (ho:OpR X (compareOp op) r) (ho':OpR X (compareOp op') r') (ha:PE X a ta) (hb:PE X b tb) (hc:PE X c tc)
  (hm:lastMarks [op,op'] [b,c]=false:=by with_unfolding_all rfl):PT X (.Compare a [op,op'] [b,c] pos) (tTest (tChain r r' ta tb tc)):=by
 intro pins s σ H Q I h
 refine isTrue_chain (thn (ha pins s σ H _ I h) fun v s1 ⟨x,H1,I1,r1,q1⟩=>test_link (thn (hb pins s1 σ H1 _ I1 q1) fun u s2 ⟨y,H2,I2,r2,q2⟩=>
  thn (ho pins s2 σ H2 x y v u _ I2 r1 r2 q2) fun d s3 ⟨z,H3,I3,r3,k,e,q3⟩=>?_)) hm
 subst e
 cases r3
 refine wpAny_truthy_bool ?_
 cases k with
 | false=>
  obtain ⟨k',e',q'⟩:=q3
  cases e'
  exact ite_ff ⟨H3,I3,q'⟩
 | true=>
  refine ite_tt (test_last (thn (hc pins s3 σ H3 _ I3 q3) fun w' s4 ⟨z',H4,I4,r4,q4⟩=>thn (ho' pins s4 σ H4 y z' u w' _ I4 r2 r4 q4) fun d' s5 ⟨z2,H5,I5,r5,k2,e2,q5⟩=>?_))
  subst e2
  cases r5
  exact wpAny_truthy_bool ⟨H5,I5,q5⟩
theorem line63:(sizeLine:Nat)<2 ^ 63:=by rw [sizeLine_eq];decide
theorem op_add_str:OpR X (binaryOp .Add) (fun x y H Q=>∃i j,x=.str i/\y=.str j/\i.length+j.length<=sizeLine/\Q (.str (i++j)) H):=by
 intro pins s σ H x y v u Q I rx ry h
 obtain ⟨i,j,rfl,rfl,hz,q⟩:=h
 obtain ⟨t,rfl⟩:=rx
 obtain ⟨t',rfl⟩:=ry
 exact add_str (fun t' tk=>⟨.str (i++j),H,I.tok _,⟨_,rfl⟩,q⟩) hz
theorem vals1 {x:V} {us:List Value} (r:Vals [x] us):∃u,us=[u]/\RelV x u:=by
 cases r with
 | cons r1 r2=>cases r2;exact ⟨_,rfl,r1⟩
theorem call_int1:CallR X (.type "int") (fun xs H Q=>(∃i,xs=[.int i]/\Q (.int i) H)\/∃k,xs=[.bl k]/\Q (.int (if k then 1 else 0)) H):=by
 intro pins s σ H xs us Q I r h
 rcases h with ⟨i,rfl,q⟩|⟨k,rfl,q⟩
 ·obtain ⟨u,rfl,t,rfl⟩:=vals1 r
  exact call_int_int ⟨.int i,H,I,⟨_,rfl⟩,q⟩
 ·obtain ⟨u,rfl,r1⟩:=vals1 r
  cases r1
  exact call_int_bool ⟨.int (if k then 1 else 0),H,I.tok _,⟨_,rfl⟩,q⟩
theorem call_str_int:CallR X (.type "str") (fun xs H Q=>∃i,xs=[.int i]/\i.natAbs.log2<1920/\Q (.str (toString i)) H):=by
 intro pins s σ H xs us Q I r h
 obtain ⟨i,rfl,hz,q⟩:=h
 obtain ⟨u,rfl,t,rfl⟩:=vals1 r
 exact PySem.P.str_of_int hz ⟨.str _,H,I.tok _,⟨_,rfl⟩,q⟩
end
structure ObjM (h:Heap) (x dx C:Addr) (mA:Str->Option Value):Prop where
 obj:h.get? x=some (PySem.W.instObj C dx)
 ns:h.Ns1 dx mA
 ne:dx≠x
theorem lookIn_ns {h:Heap} {dx:Addr} {mA:Str->Option Value} (n:h.Ns1 dx mA):∃od,h.get? dx=some od/\∀name,PySem.W.lookIn name od=some (mA name):=by
 obtain ⟨o,es,ep,ho,hd,hk,_,hm⟩:=n
 refine ⟨o,ho,fun name=>?_⟩
 have e:=hm name
 unfold nsFind findBy at e
 rw [<-Array.find?_toList] at e
 unfold PySem.W.lookIn
 rw [hd]
 dsimp only
 split
 ·rename_i y q
  rw [q] at e
  exact congrArg some e
 ·rename_i q
  rw [q] at e
  have a:es.toList.any (·.refKey)=false:=by
   rw [List.any_eq_false]
   intro y hy
   obtain ⟨z,t,hkey⟩:=hk y (Array.mem_toList_iff.mp hy)
   simp [DictEntry.refKey,hkey]
  have a':¬es.toList.any (·.refKey)=true:=by rw [a];exact Bool.false_ne_true
  rw [if_neg a']
  exact congrArg some e
theorem ObjM.look {h:Heap} {x dx C:Addr} {mA:Str->Option Value} (I:ObjM h x dx C mA):∃od,PySem.W.InstAt h x (PySem.W.instObj C dx) C (some od)/\∀name,PySem.W.lookIn name od=some (mA name):=
 let ⟨od,ho,hl⟩:=lookIn_ns I.ns
 ⟨od,⟨I.obj,rfl,rfl,ho⟩,hl⟩
section
variable {prog:Program} {w:World} {A:Around} {E:Value->Shared->Prop} {s:Shared} {K:PySem.W.Frag} {x dx C f:Addr} {mA:Str->Option Value} {name:Str} {v:Value}
end
section
variable {P:Program} {w:World} {H H':Hp} {h h':Heap} {a C dx:Addr} {fs fs':List (Str × V)}
theorem ins_get (hok:HOk P w H h) (e:H a=some (.ins C dx fs)):∃mA,ObjM h a dx C mA/\(∀f,RelO (fs.lookup f) (mA f))/\PySem.Within mA (fs.map (·.1))/\fs.length<=1000/\H dx=some (.own a):=by
 obtain ⟨d,z,ne,ob,mA,n,r,q⟩:=(show ObjOk P w H h a (.ins C dx fs) from hok a _ e)
 exact ⟨mA,⟨ob,n,ne⟩,r,q,z,d⟩
end
structure Cls (K:PySem.W.Frag) (C:Addr):Prop where
 pg:PySem.W.plainGet K C Str.empty=true
 hd:PySem.W.hasDictIn K C=true
 po:PySem.W.plainOver K C=true
 sa:PySem.W.findIn K (.ref C) "__setattr__"=some (some (.builtin "object.__setattr__"))
theorem Cls.get {K:PySem.W.Frag} {C:Addr} (c:Cls K C) (f:Str):PySem.W.plainGet K C f=true:=c.pg
section
variable {X:Cx} {pins:List (Addr × Obj)} {σ:St} {H:Hp} {s:Shared} {a C dx:Addr} {fs:List (Str × V)} {f:Str} {v:V} {A:Around} {E:Value->Shared->Prop}
end
section
variable {X:Cx} {pins:List (Addr × Obj)} {σ:St} {H:Hp} {s:Shared} {A:Around} {E:Value->Shared->Prop} {Q:Value->Shared->Prop} {c:Value} {b:Bool}
inductive TyOf (K:PySem.W.Frag) (H:Hp):V->Value->Prop where
 | non:TyOf K H .non (.type "NoneType")
 | bl (x:Bool):TyOf K H (.bl x) (.type "bool")
 | int (i:Int):TyOf K H (.int i) (.type "int")
 | str (x:Str):TyOf K H (.str x) (.type "str")
 | flt (x:UInt64):TyOf K H (.flt x) (.type "float")
 | lst {a:Addr} {xs:List V} (e:H a=some (.lst xs)):TyOf K H (.ref a) (.type "list")
 | frz {a:Addr} {o:Obj} {xs:List V} (e:H a=some (.frz o (.lst xs))):TyOf K H (.ref a) (.type "list")
 | tup {a:Addr} {xs:List V} (e:H a=some (.tup xs)):TyOf K H (.ref a) (.type "tuple")
 | dK {a:Addr} {kvs:List (Key × V)} (e:H a=some (.dK kvs)):TyOf K H (.ref a) (.type "dict")
 | dT {a:Addr} {kvs:List (List Key × V)} (e:H a=some (.dT kvs)):TyOf K H (.ref a) (.type "dict")
 | ins {a C dx:Addr} {fs:List (Str × V)} (e:H a=some (.ins C dx fs)) (cl:Cls K C) (ha:PySem.W.findIn K (.ref C) "__class__"=some (some (.builtin "object.__class__")))
   (hn:PySem.W.specialIn K (.builtin "object.__class__") "__get__"=some (some (.builtin "getset_descriptor.__get__"))) (htk:PySem.W.takesIn K (.builtin "object.__class__")=some true)
   (hm:PySem.W.mroIn K C (.type "object")=some true):TyOf K H (.ref a) (.ref C)
end
structure Room (k:Nat) (A:Around):Prop where
 hd:A.handled=none
 dp:A.depth+3 * k+5<recursionLimit
 un:A.units+16 * k+200<cLine
 gd:A.guards=some []
theorem Room.mono {j k:Nat} {A:Around} (r:Room k A) (h:j<=k):Room j A:=⟨r.hd,by have:=r.dp;omega,by have:=r.un;omega,r.gd⟩
theorem Room.deeper {k:Nat} {A:Around} (r:Room (k+1) A) (env:Env):Room k (A.deeper env):=
 ⟨r.hd,by have:=r.dp;show A.depth+1+3 * k+5<_;omega,by have:=r.un;show A.units+3+16 * k+200<_;omega,r.gd⟩
theorem Room.depth {k:Nat} {A:Around} (r:Room k A):A.depth<recursionLimit:=by have:=r.dp;omega
theorem Room.units {k:Nat} {A:Around} (r:Room k A):A.units+64<cLine:=by have:=r.un;omega
def tNil:TA:=fun _ H Q=>Q [] H
def tCons (ta:TE) (tr:TA):TA:=fun σ H Q=>ta σ H fun x H1=>tr σ H1 fun xs H2=>Q (x::xs) H2
section
variable {X:Cx} {e:Expr} {es:List Expr} {te:TE} {t:TA} {pos:Pos}
theorem pa_nil:PA X [] tNil:=fun _ _ _ _ H Q I h=>Calls.spliced_nil ⟨[],H,I,.nil,h⟩
theorem pa_cons (ha:PE X e te) (hr:PA X es t) (hs:starEach (e::es) X.env=(false,eval e X.env)::starEach es X.env:=by rfl):PA X (e::es) (tCons te t):=by
 intro pos pins s σ H Q I h
 rw [hs]
 show wpAny _ _ (spliced ((false,eval e X.env)::backTo pos (starEach es X.env))) _ _ s
 refine Calls.spliced_cons (thn (ha pins s σ H _ I h) fun u s1 ⟨x,H1,I1,r1,q1⟩=>?_)
 exact thn (hr pos pins s1 σ H1 _ I1 q1) fun us s2 ⟨xs,H2,I2,r2,q2⟩=>⟨x::xs,H2,I2,.cons r1 r2,q2⟩
def tTup (t:TA):TE:=fun σ H Q=>t σ H fun xs H1=>xs.length<=sizeLine/\∀p,H1 p=none->Q (.ref p) (upd H1 p (.tup xs))
def tLst (t:TA):TE:=fun σ H Q=>t σ H fun xs H1=>xs.length<=sizeLine/\∀p,H1 p=none->Q (.ref p) (upd H1 p (.lst xs))
theorem pe_tup {x1} (h:PA X es t):PE X (.Tuple es x1 pos) (tTup t):=by
 intro pins s σ H Q I hq
 refine wpAny_Tuple_spliced (thn (h pos pins s σ H _ I hq) fun us s1 ⟨xs,H1,I1,r,z,q⟩=>⟨by rw [<-r.length];exact z,?_⟩)
 have hf:H1 s1.heap.objs.size=none:=I1.hok.fresh (Nat.le_refl _)
 refine ⟨.ref s1.heap.objs.size,upd H1 s1.heap.objs.size (.tup xs),I1.laid (t':=s1.toks) (fun b u e=>Heap.get?_push_of_some _ e) (Nat.le_refl _) ?_,rfl,q _ hf⟩
 exact ⟨z,us,r,⟨_,Heap.get?_push_size _ rfl,rfl,_,rfl⟩⟩
theorem pe_lst (h:PA X es t):PE X (.List es pos) (tLst t):=by
 intro pins s σ H Q I hq
 refine wpAny_List_spliced (thn (h pos pins s σ H _ I hq) fun us s1 ⟨xs,H1,I1,r,z,q⟩=>⟨by rw [<-r.length];exact z,?_⟩)
 have hf:H1 s1.heap.objs.size=none:=I1.hok.fresh (Nat.le_refl _)
 refine ⟨.ref s1.heap.objs.size,upd H1 s1.heap.objs.size (.lst xs),I1.laid (t':=s1.toks) (fun b u e=>Heap.get?_push_of_some _ e) (Nat.le_refl _) ?_,rfl,q _ hf⟩
 exact ⟨z,us,0,r,Heap.get?_push_size _ rfl⟩
end
abbrev Sp:=List V->Hp->VK->XK->Prop
abbrev CXT:=List Env->Hp->Shared->XK->Value->Shared->Prop
structure Env0 (P:Program) (w:World) (K:PySem.W.Frag) (mg:Str->Option Value) (base:Heap) (A:Around) (outer:List Env) (s:Shared) (H:Hp):Prop where
 frames:A.frames=some outer
 mod:Mod K mg base
 bs:∀b o,base.get? b=some o->s.heap.get? b=some o/\H b=none
 bsz:base.objs.size<=s.heap.objs.size
 funs:s.heap.FunFrames base outer
 frf:∀b∈frs outer,H b=none
 hok:HOk P w H s.heap
 bare:AllBare s.gens
def CE (outer:List Env) (P:Program) (w:World) (H:Hp) (s:Shared) (Q:VK) (u:Value) (s':Shared):Prop:=
 ∃v H',s'.os=s.os/\AllBare s'.gens/\Un (frs outer) [] H H' s.heap s'.heap/\HOk P w H' s'.heap/\RelV v u/\Q v H'
def CR (CX:CXT) (outer:List Env) (P:Program) (w:World) (H:Hp) (s:Shared) (Q:VK) (E:XK) (r:Result) (s':Shared):Prop:=
 match r with
 | .ok (.ret u)=>CE outer P w H s Q u s'
 | .ok _=>False
 | .error e=>CX outer H s E e s'
structure FnOk (P:Program) (w:World) (K:PySem.W.Frag) (mg:Str->Option Value) (base:Heap) (CX:CXT) (k:Nat) (f:Addr) (fd:FuncData) (ps:List Str) (sp:Sp):Prop where
 len:∀vs H Q E,sp vs H Q E->vs.length=ps.length
 run:∀(A:Around) (outer:List Env) (s:Shared) (H:Hp) (args:Args) (us:List Value) (vs:List V) (Q:VK) (E:XK),Room k A->Env0 P w K mg base A outer s H->BindsTo s fd args (ps.zip us)->Vals vs us->sp vs H Q E->
  codeAny (model P w) A (.call (.ref f) args) (CR CX outer P w H s Q E) s
section
variable {X:Cx} {pins:List (Addr × Obj)} {σ:St} {H:Hp} {s s':Shared}
theorem Inv.env0 (I:Inv X pins σ H s):Env0 X.prog X.w X.K X.mg X.base X.A X.stack s H:=
 ⟨I.ok.frames,I.ok.mod,I.bs,Nat.le_trans I.ok.bsz I.sz,I.stack,I.stkFree,I.hok,I.bare⟩
theorem Inv.after {Q:VK} {u:Value} (I:Inv X pins σ H s) (h:CE X.stack X.prog X.w H s Q u s'):EP X pins σ Q u s':=by
 obtain ⟨v,H',os,bare,un,hok,r,q⟩:=h
 obtain ⟨hh,g,d,t,os'⟩:=s'
 obtain rfl:os'=s.os:=os
 exact ⟨v,H',I.call (h':=hh) (g':=g) (d':=d) (t':=t) (ch:=[]) un hok bare (fun b z=>absurd z (by simp)),r,q⟩
end
def tCall (sp:Sp) (dvs:List V) (E:XK) (t:TA):TE:=fun σ H Q=>t σ H fun vs H1=>sp (vs++dvs) H1 Q E
def Binds (K:PySem.W.Frag) (fd:FuncData) (ps:List Str) (ds:List Value):Prop:=
 ∀(s:Shared) (us:List Value),K.In s.heap->(us++ds).length=ps.length->BindsTo s fd ⟨us,[]⟩ (ps.zip (us++ds))
theorem Binds.all {K:PySem.W.Frag} {fd:FuncData} {ps:List Str} (h:∀us:List Value,us.length=ps.length->bindArgs fd ⟨us,[]⟩=pure (ps.zip us)):Binds K fd ps []:=fun s us _ hl=>by
 rw [List.append_nil] at hl ⊢
 exact .of_eq (h us hl)
def Passes (CX:CXT) (X:Cx) (E:XK):Prop:=∀(pins:List (Addr × Obj)) (σ:St) (H:Hp) (s:Shared) (e:Value) (s':Shared),Inv X pins σ H s->CX X.stack H s E e s'->X.xe e s'
section
variable {X:Cx} {CX:CXT} {k:Nat} {f C:Addr} {fd:FuncData} {ps:List Str} {sp:Sp} {dvs:List V} {ds:List Value} {E:XK} {x m:Str} {p pos apos:Pos} {e o:Expr} {es:List Expr} {ta:TE} {t:TA}
theorem run_fn {pins:List (Addr × Obj)} {σ:St} {H:Hp} {s:Shared} {Q:VK} {us:List Value} {vs:List V} (F:FnOk X.prog X.w X.K X.mg X.base CX k f fd ps sp) (hr:Room k X.A) (hb:Binds X.K fd ps ds) (hd:Vals dvs ds) (hx:Passes CX X E)
  (I:Inv X pins σ H s) (r:Vals vs us) (h:sp (vs++dvs) H Q E):wpAny (model X.prog X.w) X.A (call (.ref f) us) (EP X pins σ Q) X.xe s:=by
 have r2:Vals (vs++dvs) (us++ds):=r.append hd
 have hl:(us++ds).length=ps.length:=by rw [<-r2.length];exact F.len _ _ _ _ h
 refine wpAny_call (codeAny_mono (F.run X.A X.stack s H ⟨us,[]⟩ (us++ds) (vs++dvs) Q E hr I.env0 (hb s us I.kIn hl) r2 h) fun r s' hq=>?_)
 cases r with
 | error e=>exact hx pins σ H s e s' I hq
 | ok fl=>
  cases fl with
  | ret u=>exact I.after hq
  | next=>exact False.elim hq
  | brk=>exact False.elim hq
  | cont=>exact False.elim hq
theorem pe_call (F:FnOk X.prog X.w X.K X.mg X.base CX k f fd ps sp) (hr:Room k X.A) (hg:Gl X x) (hm:X.mg x=some (.ref f)) (hk:PySem.W.keepIn X.K (.ref f)=true) (hb:Binds X.K fd ps ds) (hd:Vals dvs ds) (hx:Passes CX X E)
  (ha:PA X (e::es) t) (hdb:(x == ("__debug__":Str))=false:=by decide) (he:starEach (e::es) X.env=(false,eval e X.env)::starEach es X.env:=by rfl) (hpl:(backTo pos (starEach es X.env)).any (·.1)=false:=by rfl) :
  PE X (.Call (.Name x p) (e::es) [] pos) (tCall sp dvs E t):=by
 intro pins s σ H Q I h
 refine wpAny_Call_Name_kw (ld_glob I hg hm ?_ hdb)
 refine PySem.W.callWith_K (h₀:=X.base) I.ok.mod.kin hk (thn (ha pos pins s σ H _ I h) fun us s1 ⟨vs,H1,I1,r,q⟩=>⟨I1.kIn,?_⟩) he hpl
 exact run_fn F hr hb hd hx I1 r q
end
structure FnScope (N P:List Str) (sc:Scope):Prop where
 kind:sc.kind=.function
 co:sc.isCoroutine=false
 gen:sc.isGenerator=false
 nd:N.Nodup
 pre:N.take P.length=P
 par:∀x∈P,sc.names.lookup x=some .local\/sc.names.lookup x=some .cell
 nofree:∀y∈sc.names,y.2≠.free
theorem bindL_out {kindOf:Str->Option NameKind} {x:Str}:∀{binds:List (Str × Value)} {m:Str->Option Value},(∀v,(x,v) ∉ binds)->bindL kindOf binds m x=m x
 | [],_,_=>rfl
 | (n,v)::r,m,h=>by
  unfold bindL
  rw [bindL_out fun w hw=>h w (List.mem_cons_of_mem _ hw)]
  split
  ·have:x≠n:=by rintro rfl;exact h v List.mem_cons_self
   simp [this]
  ·rfl
theorem bindC_out {kindOf:Str->Option NameKind} {x:Str}:∀{binds:List (Str × Value)} {m:Str->Option Value},(∀v,(x,v) ∉ binds)->bindC kindOf binds m x=m x
 | [],_,_=>rfl
 | (n,v)::r,m,h=>by
  unfold bindC
  rw [bindC_out fun w hw=>h w (List.mem_cons_of_mem _ hw)]
  split
  ·rfl
  ·have:x≠n:=by rintro rfl;exact h v List.mem_cons_self
   simp [this]
theorem bindL_get {kindOf:Str->Option NameKind} {x:Str} {v:Value}:∀{P:List Str} {vs:List Value} {i:Nat} {m:Str->Option Value},P.Nodup->P[i]? = some x->vs[i]? = some v->kindOf x=some .local->
  bindL kindOf (P.zip vs) m x=some v
 | [],_,_,_,_,h,_,_=>by simp at h
 | _::_,[],_,_,_,_,h,_=>by simp at h
 | p::P,w::vs,0,m,nd,h1,h2,hk=>by
  simp at h1 h2;subst h1;subst h2
  show bindL kindOf ((p,w)::P.zip vs) m p=_
  unfold bindL
  rw [bindL_out fun v hv=>(List.nodup_cons.mp nd).1 (List.of_mem_zip hv).1,if_pos hk]
  simp
 | p::P,w::vs,i+1,m,nd,h1,h2,hk=>by
  show bindL kindOf ((p,w)::P.zip vs) m x=_
  unfold bindL
  exact bindL_get (i:=i) (List.nodup_cons.mp nd).2 (by simpa using h1) (by simpa using h2) hk
theorem bindC_get {kindOf:Str->Option NameKind} {x:Str} {v:Value}:∀{P:List Str} {vs:List Value} {i:Nat} {m:Str->Option Value},P.Nodup->P[i]? = some x->vs[i]? = some v->kindOf x≠some .local->
  bindC kindOf (P.zip vs) m x=some v
 | [],_,_,_,_,h,_,_=>by simp at h
 | _::_,[],_,_,_,_,h,_=>by simp at h
 | p::P,w::vs,0,m,nd,h1,h2,hk=>by
  simp at h1 h2;subst h1;subst h2
  show bindC kindOf ((p,w)::P.zip vs) m p=_
  unfold bindC
  rw [bindC_out fun v hv=>(List.nodup_cons.mp nd).1 (List.of_mem_zip hv).1,if_neg hk]
  simp
 | p::P,w::vs,i+1,m,nd,h1,h2,hk=>by
  show bindC kindOf ((p,w)::P.zip vs) m x=_
  unfold bindC
  exact bindC_get (i:=i) (List.nodup_cons.mp nd).2 (by simpa using h1) (by simpa using h2) hk
def start (N:List Str) (vs:List V):St:=vs.map some++List.replicate (N.length - vs.length) none
def cxOf (CX:CXT) (P:Program) (w:World) (K:PySem.W.Frag) (mg:Str->Option Value) (base:Heap) (N:List Str) (qual:Str) (scope:Scope) (f:Addr) (cd:Value) (A:Around) (outer:List Env) (s:Shared) (H:Hp) (E:XK):Cx where
 prog:=P
 w:=w
 K:=K
 mg:=mg
 base:=base
 A:=A.deeper (envOfC qual scope s.heap.objs.size f cd)
 N:=N
 s₀:=s
 H₀:=H
 env:=envOfC qual scope s.heap.objs.size f cd
 outer:=outer
 stack:=envOfC qual scope s.heap.objs.size f cd::outer
 ex:=[]
 calm:=true
 fn:=fun _=>true
 pn:=[]
 xe:=fun e s'=>wpAny (model P w) (A.deeper (envOfC qual scope s.heap.objs.size f cd)) (leaving (envOfC qual scope s.heap.objs.size f cd) e) (fun _ s''=>CX outer H s E e s'') (fun e' s''=>CX outer H s E e' s'') s'
theorem cell_has {sc:Scope} {n:Nat} {x:Str} (h:sc.names.lookup x=some .cell):∃c,(cellsFrom n sc.names []).lookup x=some c:=by
 have q:=PySem.W.cellsFrom_some sc.names n [] (.inl h)
 exact Option.isSome_iff_exists.mp q
theorem inv_start {CX:CXT} {P:Program} {w:World} {K:PySem.W.Frag} {mg:Str->Option Value} {base:Heap} {N ps:List Str} {qual:Str} {scope:Scope} {f:Addr} {cd:Value} {A:Around} {outer:List Env} {s s1:Shared} {H:Hp} {E:XK} {us:List Value} {vs:List V}
  (S:FnScope N ps scope) (hd:A.handled=none) (e0:Env0 P w K mg base A outer s H) (hl:vs.length=ps.length) (r:Vals vs us)
  (x:InCallC s s.heap.objs.size (bindL (envOfC qual scope s.heap.objs.size f cd).kindOf (ps.zip us) fun _=>none) (cellsFrom (s.heap.objs.size+1) scope.names []) (bindC (envOfC qual scope s.heap.objs.size f cd).kindOf (ps.zip us) fun _=>none) s1) :
  Inv (cxOf CX P w K mg base N qual scope f cd A outer s H E) [] (start N vs) H s1:=by
 have hpl:ps.length<=N.length:=by have:=congrArg List.length S.pre;rw [List.length_take] at this;omega
 obtain ⟨h1,tk,rfl,hk⟩:=x.done
 have noA:∀b:Addr,b ∉ (cxOf CX P w K mg base N qual scope f cd A outer s H E).ex:=fun b z=>absurd (show b∈([]:List Addr) from z) (by simp)
 refine ⟨⟨e0.mod,S.kind,rfl,rfl,Nat.le_refl _,fun y z c h1 h2=>?_,fun y hy=>?_,fun y c _ h=>?_,fun _=>hd,Around.frames_deeper e0.frames,.inr ⟨rfl,rfl⟩,fun b z=>absurd z (noA b),e0.bs,e0.bsz,fun b _ _=>noA b,fun b z=>absurd z (noA b),e0.funs,e0.frf⟩,
  rfl,e0.bare,Un.kept hk,⟨_,x.toInCall.ns,fun i y v h1 h2 h3=>?_⟩,fun y c h=>⟨_,x.cell y c h⟩,e0.hok.fresh (Nat.le_refl _),fun y c h=>?_,fun p hp=>absurd (show p∈([]:List (Addr × Obj)) from hp) (by simp),e0.hok.kept hk,?_⟩
 ·exact name_of_addr x.apart (PySem.mem_of_lookup h1) (PySem.mem_of_lookup h2)
 ·have hy:scope.names.lookup y=some .cell\/scope.names.lookup y=some .free:=hy
  rcases hy with hy|hy
  ·exact cell_has hy
  ·exact absurd rfl (S.nofree _ (PySem.mem_of_lookup hy))
 ·exact Nat.le_of_lt (x.above y c (PySem.mem_of_lookup h))
 ·have hi:i<vs.length:=by
   unfold start at h2
   by_cases hi:i<vs.length
   ·exact hi
   ·rw [List.getElem?_append_right (by simpa using hi)] at h2
    rw [List.getElem?_replicate] at h2
    split at h2<;>cases h2
  have ha:vs[i]? = some v:=by
   unfold start at h2
   rw [List.getElem?_append_left (by simpa using hi),List.getElem?_map] at h2
   cases e:vs[i]? with
   | none=>rw [e] at h2;cases h2
   | some a=>rw [e] at h2;cases h2;rfl
  obtain ⟨u,hu,rv⟩:=r.get ha
  have hp:ps[i]? = some y:=by
   rw [<-S.pre,List.getElem?_take_of_lt (by omega)];exact h1
  have ndP:ps.Nodup:=by rw [<-S.pre];exact S.nd.sublist (List.take_sublist _ _)
  refine ⟨u,rv,?_⟩
  rcases S.par y (List.mem_of_getElem? hp) with k|k
  ·exact .inl ⟨k,bindL_get ndP hp hu k⟩
  ·obtain ⟨c,e⟩:=cell_has (n:=s.heap.objs.size+1) k
   refine .inr ⟨.inl k,c,e,?_⟩
   have q:=x.cell y c e
   rw [bindC_get ndP hp hu (by show scope.names.lookup y≠_;rw [k];decide)] at q
   exact q
 ·exact e0.hok.fresh (Nat.le_of_lt (x.above y c (PySem.mem_of_lookup h)))
 ·unfold start
  show _=N.length
  rw [List.length_append,List.length_map,List.length_replicate]
  omega
theorem fn_of {CX:CXT} {P:Program} {w:World} {K:PySem.W.Frag} {mg:Str->Option Value} {base:Heap} {k:Nat} {f:Addr} {name qual:Str} {params:Arguments} {body:List Stmt} {scope:Scope} {dV kV doc pm cdv ct oc:Value} {an od:Option Addr}
  {osl:Array (Option Value)} {N ps:List Str} {sp:Sp} (lk:K.lookup f=some ⟨oc,od,.func (PySem.W.fnOf name qual params body scope dV kV doc pm an cdv ct),osl⟩) (hcd:PySem.W.codeIn K cdv qual=true) (S:FnScope N ps scope)
  (len:∀vs H Q E,sp vs H Q E->vs.length=ps.length)
  (hbody:∀(A:Around) (outer:List Env) (s:Shared) (H:Hp) (vs:List V) (Q:VK) (E:XK),Room k (A.deeper (envOfC qual scope s.heap.objs.size f cdv))->sp vs H Q E->
   ∃t,PSs (cxOf CX P w K mg base N qual scope f cdv A outer s H E) body t/\t { nx:=fun _ H'=>Q .non H',rt:=Q } (start N vs) H) :
  FnOk P w K mg base CX (k+1) f (PySem.W.fnOf name qual params body scope dV kV doc pm an cdv ct) ps sp:=by
 refine ⟨len,fun A outer s H args us vs Q E hr e0 hb r hsp=>?_⟩
 have hl:=len _ _ _ _ hsp
 have KX:K.In s.heap:=e0.mod.kin.keeps fun b o e=>(e0.bs b o e).1
 have lim:s.heap.NoLimit:=e0.mod.nolimit.keeps fun b o e=>(e0.bs b o e).1
 have hkind:∀y∈ps.zip us,scope.names.lookup y.1=some .local\/(scope.names.lookup y.1=some .cell/\((cellsFrom (s.heap.objs.size+1) scope.names []).lookup y.1).isSome=true):=fun ⟨n,v⟩ hy=>by
  rcases S.par n (List.of_mem_zip hy).1 with q|q
  ·exact .inl q
  ·exact .inr ⟨q,PySem.W.cellsFrom_some _ _ _ (.inl q)⟩
 refine codeAny_call_function hr.depth (KX _ _ lk) rfl S.co S.gen rfl (PySem.W.codeRec_of KX hcd) (hb _ _ _ _ ?_)
 refine wpAny_newFunctionEnv_cells S.kind hkind fun env he s1 x=>?_
 subst he
 refine ⟨lim.keeps x.toInCall.keep,codeAny_func ?_⟩
 obtain ⟨t,ht,hq⟩:=hbody A outer s H vs Q E (hr.deeper _) hsp
 have I:Inv (cxOf CX P w K mg base N qual scope f cdv A outer s H E) [] (start N vs) H s1:=inv_start S hr.hd e0 hl r x
 refine wpAny_mono (ht [] s1 (start N vs) H _ I hq) (fun fl s' hs=>?_) fun e s' hs=>hs
 have fin:∀{σ':St} {H':Hp} {v:V} {u:Value},Inv (cxOf CX P w K mg base N qual scope f cdv A outer s H E) [] σ' H' s'->RelV v u->Q v H'->CE outer P w H s Q u s':=
  fun {σ' H' v u} J rv q=>⟨v,H',J.os,J.bare,J.base,J.hok,rv,q⟩
 cases fl with
 | ret u=>
  obtain ⟨v,σ',H',J,rv,q⟩:=hs
  exact fin J rv q
 | next=>
  obtain ⟨σ',H',J,q⟩:=hs
  exact fin (v:=V.non) (u:=Value.none) J rfl q
 | brk=>
  obtain ⟨_,_,_,q⟩:=hs
  exact False.elim q
 | cont=>
  obtain ⟨_,_,_,q⟩:=hs
  exact False.elim q
section
variable {X:Cx} {x:Str} {p pos:Pos} {e:Expr} {es:List Expr} {t:TA} {id T:String} {r:List V->Hp->VK->Prop}
def tCB (r:List V->Hp->VK->Prop) (t:TA):TE:=fun σ H Q=>t σ H fun vs H1=>r vs H1 Q
theorem pe_callB (hc:CallR X (.builtin id) r) (hg:Gl X x) (hm:X.mg x=none) (hv:bootBuiltins x=some (.builtin id)) (ha:PA X (e::es) t) (hn:x≠"__name__":=by decide) (hdb:(x == ("__debug__":Str))=false:=by decide)
  (he:starEach (e::es) X.env=(false,eval e X.env)::starEach es X.env:=by rfl) (hpl:(backTo pos (starEach es X.env)).any (·.1)=false:=by rfl):PE X (.Call (.Name x p) (e::es) [] pos) (tCB r t):=by
 intro pins s σ H Q I h
 refine wpAny_Call_Name_kw (ld_blt I hg hm hv ?_ hn hdb)
 exact PyProof.Rows.callWith_builtin1 (thn (ha pos pins s σ H _ I h) fun us s1 ⟨vs,H1,I1,r1,q1⟩=>hc pins s1 σ H1 vs us Q I1 r1 q1) he hpl
theorem pe_callTy (hc:CallR X (.type T) r) (hg:Gl X x) (hm:X.mg x=none) (hv:bootBuiltins x=some (.type T)) (ha:PA X (e::es) t) (hn:x≠"__name__":=by decide) (hdb:(x == ("__debug__":Str))=false:=by decide)
  (he:starEach (e::es) X.env=(false,eval e X.env)::starEach es X.env:=by rfl) (hpl:(backTo pos (starEach es X.env)).any (·.1)=false:=by rfl):PE X (.Call (.Name x p) (e::es) [] pos) (tCB r t):=by
 intro pins s σ H Q I h
 refine wpAny_Call_Name_kw (ld_blt I hg hm hv ?_ hn hdb)
 exact PyProof.Rows.callWith_type1 (thn (ha pos pins s σ H _ I h) fun us s1 ⟨vs,H1,I1,r1,q1⟩=>hc pins s1 σ H1 vs us Q I1 r1 q1) he hpl
end
end L2
namespace HT
open PySem PyProof.Rows
section
open PySem.SeqAt
open PySem.AutoSeq1 (wpAny_loadPart')
open PySem.MeetsSeq PySem.MeetsSeq2 PySem.MeetsSeq3
end
section
variable {prog:Program} {w:World} {A:Around} {E:Value->Shared->Prop} {s:Shared}
def sIx (n d:Nat):Option Int->Nat
 | none=>d
 | some v=>if v<0 then (v+(n:Int)).toNat else min v.toNat n
theorem sIx_none (n d:Nat):sIx n d none=d:=rfl
theorem sIx_nat (n d k:Nat):sIx n d (some (k:Int))=min k n:=by
 show (if (k:Int)<0 then ((k:Int)+(n:Int)).toNat else min (k:Int).toNat n)=min k n
 rw [if_neg (by omega),Int.toNat_natCast]
end
end HT
namespace L2
open PySem PySem.Spec PyProof.Rows
abbrev TO:=St->Hp->(Option Int->Hp->Prop)->Prop
def PO (X:Cx) (e:Option Expr) (t:TO):Prop:=
 ∀(pins:List (Addr × Obj)) (s:Shared) (σ:St) (H:Hp) (Q:Option Int->Hp->Prop),Inv X pins σ H s->t σ H Q->
  wpAny (model X.prog X.w) X.A (evalPart e X.env) (fun u s'=>∃o H',Inv X pins σ H' s'/\IsPart u o/\Q o H') X.xe s
def tNoPart:TO:=fun _ H Q=>Q none H
def tPart (t:TE):TO:=fun σ H Q=>t σ H fun x H1=>∃i,x=.int i/\Q (some i) H1
section
variable {X:Cx} {e:Expr} {te:TE} {lo hi:Option Expr} {tl th:TO} {pos p2:Pos}
theorem po_none:PO X none tNoPart:=by
 intro pins s σ H Q I h
 rw [evalPart_none]
 exact wpAny_pure ⟨none,H,I,.none,h⟩
theorem po_some (h:PE X e te):PO X (some e) (tPart te):=by
 intro pins s σ H Q I hw
 rw [evalPart_some]
 refine thn (h pins s σ H _ I hw) fun u s1 ⟨x,H1,I1,r1,q1⟩=>?_
 obtain ⟨i,rfl,q⟩:=q1
 obtain ⟨t,rfl⟩:=r1
 exact ⟨some i,H1,I1,.int i t,q⟩
def SlR (X:Cx) (r:V->Option Int->Option Int->Hp->VK->Prop):Prop:=
 ∀(pins:List (Addr × Obj)) (s:Shared) (σ:St) (H:Hp) (x:V) (v vl vu:Value) (lo hi:Option Int) (sl:Addr) (Q:VK),Inv X pins σ H s->RelV x v->s.heap.IsSliceOf sl vl vu .none->IsPart vl lo->IsPart vu hi->r x lo hi H Q->
  ∃T id,typeLookup (.type T) "__getitem__"=pure (some (.builtin id))/\s.TypeIs v T/\wpAny (model X.prog X.w) X.A (getItem v (.ref sl)) (EP X pins σ Q) X.xe s
def tSl (r:V->Option Int->Option Int->Hp->VK->Prop) (te:TE) (tl th:TO):TE:=fun σ H Q=>te σ H fun x H1=>tl σ H1 fun l H2=>th σ H2 fun u H3=>r x l u H3 Q
theorem pe_slice {r:V->Option Int->Option Int->Hp->VK->Prop} (hr:SlR X r) (he:PE X e te) (hl:PO X lo tl) (hu:PO X hi th):PE X (.Subscript e (.Slice lo hi none p2) pos) (tSl r te tl th):=by
 intro pins s σ H Q I h
 refine Subscript_ (thn (he pins s σ H _ I h) fun v s1 ⟨x,H1,I1,r1,q1⟩=>?_)
 refine wpAny_Slice (thn (hl pins s1 σ H1 _ I1 q1) fun vl s2 ⟨l,H2,I2,pl,q2⟩=>thn (hu pins s2 σ H2 _ I2 q2) fun vu s3 ⟨u,H3,I3,pu,q3⟩=>?_)
 rw [evalPart_none]
 refine wpAny_pure ?_
 have I4:Inv X pins σ H3 { s3 with heap:=s3.heap.push { cls:=.type "slice",data:=.fields #[vl,vu,.none] } }:=I3.kept (t':=s3.toks) fun b ob q=>Heap.get?_push_of_some _ q
 obtain ⟨T,id,hT,ht,hg⟩:=hr pins { s3 with heap:=s3.heap.push { cls:=.type "slice",data:=.fields #[vl,vu,.none] } } σ H3 x v vl vu l u s3.heap.objs.size Q I4 r1 (Heap.IsSliceOf.new ..) pl pu q3
 show wpAny (model X.prog X.w) X.A (subscriptTail e (.Slice lo hi none p2) v (.ref s3.heap.objs.size)) (EP X pins σ Q) X.xe { s3 with heap:=s3.heap.push { cls:=.type "slice",data:=.fields #[vl,vu,.none] } }
 exact tail_any (ops:=[.ref s3.heap.objs.size,v]) ht hT hg (by with_unfolding_all rfl)
def cutV (xs:List V) (lo hi:Option Int):List V:=(xs.drop (HT.sIx xs.length 0 lo)).take (HT.sIx xs.length xs.length hi - HT.sIx xs.length 0 lo)
theorem cutV_length (xs:List V) (lo hi:Option Int):(cutV xs lo hi).length<=xs.length:=by
 unfold cutV
 rw [List.length_take,List.length_drop]
 omega
end
def ixN (n:Nat) (i:Int):Option Nat:=if 0<=i then (if i<n then some i.toNat else none) else if -(n:Int)<=i then some (i+n).toNat else none
def atI {α:Type} (xs:List α) (i:Int):Option α:=(ixN xs.length i).bind fun j=>xs[j]?
theorem ixN_seq {n:Nat} {i:Int} {j:Nat} (h:ixN n i=some j):seqIndex? i n=some j/\j<n/\-(n:Int)<=i/\i<n:=by
 unfold ixN at h
 by_cases h0:0<=i
 ·rw [if_pos h0] at h
  by_cases h1:i<n
  ·rw [if_pos h1] at h
   have e:i.toNat=j:=Option.some.inj h
   exact ⟨by rw [seqIndex_of h0 h1,e],by omega,by omega,h1⟩
  ·rw [if_neg h1] at h;cases h
 ·rw [if_neg h0] at h
  by_cases h1:-(n:Int)<=i
  ·rw [if_pos h1] at h
   have e:(i+n).toNat=j:=Option.some.inj h
   exact ⟨by rw [seqIndex_neg (by omega) h1,e],by omega,h1,by omega⟩
  ·rw [if_neg h1] at h;cases h
theorem atI_get {α:Type} {xs:List α} {i:Int} {v:α} (h:atI xs i=some v):∃j,seqIndex? i xs.length=some j/\xs[j]? = some v/\j<xs.length/\-(xs.length:Int)<=i/\i<xs.length:=by
 unfold atI at h
 cases e:ixN xs.length i with
 | none=>rw [e] at h;cases h
 | some j=>
  rw [e] at h
  obtain ⟨h1,h2,h3,h4⟩:=ixN_seq e
  exact ⟨j,h1,h,h2,h3,h4⟩
theorem atI_nat {α:Type} {xs:List α} {j:Nat} {v:α} (h:xs[j]? = some v):atI xs (j:Int)=some v:=by
 have hj:j<xs.length:=(List.getElem?_eq_some_iff.mp h).1
 have e:ixN xs.length (j:Int)=some j:=by
  unfold ixN
  rw [if_pos (by omega),if_pos (by omega)];simp
 unfold atI;rw [e];exact h
theorem atI_last {α:Type} (xs:List α) (v:α):atI (xs++[v]) (-1)=some v:=by
 have hl:(xs++[v]).length=xs.length+1:=by simp
 have e:ixN (xs++[v]).length (-1)=some xs.length:=by
  unfold ixN
  rw [hl,if_neg (by decide),if_pos (by omega)]
  congr 1
  omega
 unfold atI
 rw [e]
 show (xs++[v])[xs.length]? = some v
 simp
def PlainIx (b:Expr):Prop:=∀o i,subscripted b false o i=operate [o,i] (getItem o i)
def IxR (X:Cx) (r:R2):Prop:=
 ∀(value slice:Expr) (pins:List (Addr × Obj)) (s:Shared) (σ:St) (H:Hp) (x y:V) (v u:Value) (Q:VK),Inv X pins σ H s->RelV x v->RelV y u->r x y H Q->
  subscripted slice false v u=operate [v,u] (getItem v u)->wpAny (model X.prog X.w) X.A (subscriptTail value slice v u) (EP X pins σ Q) X.xe s
def MtR (X:Cx) (id:String) (r:V->List V->Hp->VK->Prop):Prop:=
 ∀(pins:List (Addr × Obj)) (s:Shared) (σ:St) (H:Hp) (x:V) (xs:List V) (v:Value) (us:List Value) (Q:VK),Inv X pins σ H s->RelV x v->Vals xs us->r x xs H Q->
  wpAny (model X.prog X.w) X.A (call (.builtin id) (v::us)) (EP X pins σ Q) X.xe s
section
variable {X:Cx} {a b:Expr} {ta tb:TE} {pos:Pos}
theorem IxR.or {r r':R2} (h:IxR X r) (h':IxR X r'):IxR X (fun x y H Q=>r x y H Q\/r' x y H Q):=by
 intro value slice pins s σ H x y v u Q I rx ry q hs
 rcases q with q|q
 ·exact h value slice pins s σ H x y v u Q I rx ry q hs
 ·exact h' value slice pins s σ H x y v u Q I rx ry q hs
theorem pe_ix {r:R2} (hr:IxR X r) (ha:PE X a ta) (hb:PE X b tb) (hs:PlainIx b):PE X (.Subscript a b pos) (tOp r ta tb):=by
 intro pins s σ H Q I h
 exact Subscript_ (binT ha hb I h fun v u s2 x y H2 I2 rx ry q=>hr a b pins s2 σ H2 x y v u Q I2 rx ry q (hs _ _))
def rIxL (K:PySem.W.Frag):R2:=fun x y H Q=>∃p xs i v,x=.ref p/\y=.int i/\SqL K H p xs/\atI xs i=some v/\Q v H
def rIxT (K:PySem.W.Frag):R2:=fun x y H Q=>∃p xs i v,x=.ref p/\y=.int i/\SqT K H p xs/\atI xs i=some v/\Q v H
def rIxS:R2:=fun x y H Q=>∃z i c,x=.str z/\y=.int i/\z.length<=sizeLine/\atI z.cps.toList i=some c/\Q (.str ⟨#[c]⟩) H
theorem ix_list:IxR X (rIxL X.K):=by
 intro value slice pins s σ H x y v u Q I rx ry h hs
 obtain ⟨p,xs,i,z,rfl,rfl,hq,he,q⟩:=h
 cases rx
 obtain ⟨t,rfl⟩:=ry
 obtain ⟨its,r,pl,hz⟩:=I.list hq
 obtain ⟨j,h1,h2,h3,h4,h5⟩:=atI_get he
 obtain ⟨w,ew,rw'⟩:=r.get h2
 have hl:=r.length
 have hn:=line63
 have fin:EP X pins σ Q w s:=⟨z,H,I,rw',q⟩
 by_cases h0:0<=i
 ·have hj:i.toNat=j:=by
   rw [seqIndex_of h0 h5] at h1
   exact Option.some.inj h1
  exact item_listR pl.isList h0 (by omega) (by rw [hj];simpa using ew) fin hs
 ·have hj:(i+(its.toArray.size:Int)).toNat=j:=by
   rw [seqIndex_neg (by omega) h4] at h1
   rw [List.size_toArray,<-hl]
   exact Option.some.inj h1
  exact subscriptTail_builtinR (x:=w) pl.isList.typeIs slot_list_getitem.lookup
   (wpAny_getItem_list_neg (Q:=fun r s'=>r=w/\EP X pins σ Q r s') pl.isList (by omega) (by rw [List.size_toArray]<;>omega) (by omega) (by rw [hj];simpa using ew) ⟨rfl,fin⟩) hs
theorem ix_tup:IxR X (rIxT X.K):=by
 intro value slice pins s σ H x y v u Q I rx ry h hs
 obtain ⟨p,xs,i,z,rfl,rfl,hq,he,q⟩:=h
 cases rx
 obtain ⟨t,rfl⟩:=ry
 obtain ⟨its,r,pl,hz⟩:=I.tuple hq
 obtain ⟨j,h1,h2,h3,h4,h5⟩:=atI_get he
 obtain ⟨w,ew,rw'⟩:=r.get h2
 have hl:=r.length
 have hn:=line63
 have fin:EP X pins σ Q w s:=⟨z,H,I,rw',q⟩
 exact subscriptTail_builtinR (x:=w) pl.typeIs slot_tuple_getitem.lookup
  (getItem_tuple (j:=j) (Q:=fun r s'=>r=w/\EP X pins σ Q r s') pl (by omega) (by omega) (by rw [List.size_toArray,<-hl];exact h1) (by simpa using ew) ⟨rfl,fin⟩) hs
theorem ix_str:IxR X rIxS:=by
 intro value slice pins s σ H x y v u Q I rx ry h hs
 obtain ⟨z,i,c,rfl,rfl,hz,he,q⟩:=h
 obtain ⟨t,rfl⟩:=rx
 obtain ⟨t',rfl⟩:=ry
 obtain ⟨j,h1,h2,h3,h4,h5⟩:=atI_get he
 have hl:z.cps.toList.length=z.length:=by simp [Str.length]
 rw [hl] at h1 h4 h5
 have hn:=line63
 exact tail_any (typeIs_str s z t) slot_str_getitem.lookup (getItem_str (c:=c) (by
  have e1:decide (i < -(2 ^ 63:Int))=false:=decide_eq_false (by omega)
  have e2:decide (i>=2 ^ 63)=false:=decide_eq_false (by omega)
  rw [e1,e2,Bool.or_false]) (by rw [h1];simpa using h2) ⟨.str ⟨#[c]⟩,H,I.tok _,⟨_,rfl⟩,q⟩) hs
theorem mapSeq_set (its:List Value) (n j:Nat) (u:Value):Obj.mapSeq (·.setIfInBounds j u) { cls:=.type "list",data:=.seq its.toArray n }={ cls:=.type "list",data:=.seq (its.set j u).toArray n }:=by
 simp [Obj.mapSeq]
theorem Inv.lst {pins:List (Addr × Obj)} {σ:St} {H:Hp} {s:Shared} {p:Addr} {xs:List V} (I:Inv X pins σ H s) (h:H p=some (.lst xs)) :
  ∃(its:List Value) (n:Nat),Vals xs its/\s.heap.get? p=some { cls:=.type "list",data:=.seq its.toArray n }/\xs.length<=sizeLine:=by
 obtain ⟨z,its,n,r,e⟩:=I.hok p _ h
 exact ⟨its,n,r,e,z⟩
theorem Inv.lstUpd {pins:List (Addr × Obj)} {σ:St} {H:Hp} {s:Shared} {p:Addr} {xs ys:List V} {its its':List Value} {n n':Nat} {f:Obj->Obj} (I:Inv X pins σ H s) (h:H p=some (.lst xs))
  (ho:s.heap.get? p=some { cls:=.type "list",data:=.seq its.toArray n }) (hf:f { cls:=.type "list",data:=.seq its.toArray n }={ cls:=.type "list",data:=.seq its'.toArray n' }) (r:Vals ys its') (hz:ys.length<=sizeLine) (t:Nat) :
  Inv X pins σ (upd H p (.lst ys)) { s with heap:=s.heap.update p f,toks:=t }:=by
 have e:(s.heap.update p f).get? p=some { cls:=.type "list",data:=.seq its'.toArray n' }:=by
  rw [Heap.get?_update_self f ho (by rw [hf]<;>rfl),hf]
 refine I.write (x:=p) (e:=p) (by rw [h];trivial) (.inl rfl) (fun b u hb q=>(Heap.get?_update_other _ _ (Ne.symm hb)).trans q) ⟨_,e⟩ ?_
 exact ⟨hz,its',n',r,e⟩
def rSetL:V->V->V->Hp->(Hp->Prop)->Prop:=fun o i v H Q=>∃p xs k j,o=.ref p/\i=.int k/\H p=some (.lst xs)/\ixN xs.length k=some j/\Q (upd H p (.lst (xs.set j v)))
theorem set_list:PSet X rSetL:=by
 intro pins s σ H o i v ov iv u Q I ro ri rv h
 obtain ⟨p,xs,k,j,rfl,rfl,hp,hj,q⟩:=h
 cases ro
 obtain ⟨t,rfl⟩:=ri
 obtain ⟨its,n,r,ho,hz⟩:=I.lst hp
 obtain ⟨h1,h2,h3,h4⟩:=ixN_seq hj
 have hl:=r.length
 have hn:=line63
 have I':Inv X pins σ (upd H p (.lst (xs.set j v))) { s with heap:=s.heap.update p (Obj.mapSeq (·.setIfInBounds j u)) }:=
  I.lstUpd hp ho (mapSeq_set its n j u) (r.set rv j) (by rw [List.length_set];exact hz) s.toks
 by_cases h0:0<=k
 ·have hk:k.toNat=j:=by
   rw [seqIndex_of h0 h4] at h1
   exact Option.some.inj h1
  exact PySem.W.ki_setAt ho h0 (by omega) (by rw [List.size_toArray,<-hl];exact h4) (by rw [hk];exact ⟨_,I',q⟩)
 ·have hk:(k+(its.toArray.size:Int)).toNat=j:=by
   rw [seqIndex_neg (by omega) h3] at h1
   rw [List.size_toArray,<-hl]
   exact Option.some.inj h1
  exact PySem.W.ki_setBack ho (by omega) (by rw [List.size_toArray,<-hl];exact h3) (by omega) (by rw [hk];exact ⟨_,I',q⟩)
theorem slice_bounds (lo hi:Option Int) (n:Nat):(sliceBounds lo hi none n).1=((HT.sIx n 0 lo:Nat):Int)/\(sliceBounds lo hi none n).2.1=((HT.sIx n n hi:Nat):Int)/\(sliceBounds lo hi none n).2.2=1:=by
 refine ⟨?_,?_,rfl⟩
 ·cases lo with
  | none=>simp [sliceBounds,HT.sIx]
  | some i=>
   simp only [sliceBounds,HT.sIx,Option.getD_none,show (1:Int) > 0 by decide,if_true]
   by_cases h:i<0
   ·simp only [h,if_true]<;>omega
   ·simp only [h,if_false]<;>omega
 ·cases hi with
  | none=>simp [sliceBounds,HT.sIx]
  | some i=>
   simp only [sliceBounds,HT.sIx,Option.getD_none,show (1:Int) > 0 by decide,if_true]
   by_cases h:i<0
   ·simp only [h,if_true]<;>omega
   ·simp only [h,if_false]<;>omega
theorem slicePick_cut (its:List Value) (lo hi:Option Int):slicePick its.toArray lo hi none=((its.drop (HT.sIx its.length 0 lo)).take (HT.sIx its.length its.length hi - HT.sIx its.length 0 lo)).toArray:=by
 obtain ⟨h1,h2,h3⟩:=slice_bounds lo hi its.toArray.size
 unfold slicePick
 rw [h1,h2,h3]
 simp only [sliceRange_one,pick_run,List.size_toArray]<;>rfl
def rSlL (K:PySem.W.Frag):V->Option Int->Option Int->Hp->VK->Prop:=fun x lo hi H Q=>∃a xs,x=.ref a/\SqL K H a xs/\∀p,H p=none->Q (.ref p) (upd H p (.lst (cutV xs lo hi)))
theorem sl_list:SlR X (rSlL X.K):=by
 intro pins s σ H x v vl vu lo hi sl Q I rx hs pl pu h
 obtain ⟨a,xs,rfl,hx,q⟩:=h
 cases rx
 obtain ⟨its,r,ht,hz⟩:=I.list hx
 have hlen:=r.length
 refine ⟨"list",_,slot_list_getitem.lookup,ht.isList.typeIs,?_⟩
 refine wpAny_getItem_list_slice ht.isList hs pl pu .none (by simp) ?_ (by rw [List.size_toArray]<;>omega)
 rw [slicePick_cut,<-hlen]
 refine ⟨.ref s.heap.objs.size,_,I.laid (t':=s.toks) (o:=.lst (cutV xs lo hi)) (fun b ob q=>Heap.get?_push_of_some _ q) (Nat.le_refl _) ?_,rfl,q _ (I.hok.fresh (Nat.le_refl _))⟩
 exact ⟨Nat.le_trans (cutV_length xs lo hi) hz,_,0,(r.drop (HT.sIx xs.length 0 lo)).take (HT.sIx xs.length xs.length hi - HT.sIx xs.length 0 lo),Heap.get?_push_size _ rfl⟩
theorem op_notIn_str:OpR X (compareOp .NotIn) (fun x y H Q=>∃i j,x=.str i/\y=.str j/\Q (.bl (!(!(Builtin.Str.occurrences j i 0 j.length 1).isEmpty))) H):=by
 intro pins s σ H x y v u Q I rx ry h
 obtain ⟨i,j,rfl,rfl,q⟩:=h
 obtain ⟨t,rfl⟩:=rx
 obtain ⟨t',rfl⟩:=ry
 exact notIn_str ⟨.bl _,H,I,rfl,q⟩
theorem call_len_seq:CallR X (.builtin "len") (fun xs H Q=>∃p ys,xs=[.ref p]/\(SqL X.K H p ys\/SqT X.K H p ys)/\Q (.int ys.length) H):=by
 intro pins s σ H xs us Q I r h
 obtain ⟨p,ys,rfl,hq,q⟩:=h
 obtain ⟨u,rfl,rx⟩:=vals1 r
 cases rx
 have hn:=line63
 rcases hq with hq|hq
 ·obtain ⟨its,r',pl,hz⟩:=I.list hq
  have hlen:=r'.length
  exact Calls.call_len_list pl.isList (by simp only [List.size_toArray]<;>omega) ⟨.int ys.length,H,I.tok _,⟨s.toks+1,by rw [List.size_toArray,hlen]⟩,q⟩
 ·obtain ⟨its,r',pl,hz⟩:=I.tuple hq
  have hlen:=r'.length
  exact len_tuple pl (by simp only [List.size_toArray]<;>omega) ⟨.int ys.length,H,I.tok _,⟨s.toks+1,by rw [List.size_toArray,hlen]⟩,q⟩
theorem call_len_str:CallR X (.builtin "len") (fun xs H Q=>∃z,xs=[.str z]/\z.length<=sizeLine/\Q (.int z.length) H):=by
 intro pins s σ H xs us Q I r h
 obtain ⟨z,rfl,hz,q⟩:=h
 obtain ⟨u,rfl,t,rfl⟩:=vals1 r
 have hn:=line63
 exact len_str (by omega) ⟨.int z.length,H,I.tok _,⟨_,rfl⟩,q⟩
def tyV (K:PySem.W.Frag) (T:String) (x:V) (H:Hp):Prop:=match x with
 | .str _=>T="str"
 | .int _=>T="int"
 | .ref p=>(T="list"/\∃xs,SqL K H p xs)\/(T="tuple"/\∃o,K.lookup p=some o/\o.cls=.type "tuple"/\o.dict=none) \/
   (T="dict"/\((∃kvs,H p=some (.dK kvs))\/∃kvs,H p=some (.dT kvs)))\/(T="set"/\∃S n,H p=some (.set S n))
 | _=>False
theorem tyV_is {pins:List (Addr × Obj)} {σ:St} {H:Hp} {s:Shared} {T:String} {x:V} {v:Value} (I:Inv X pins σ H s) (r:RelV x v) (ty:tyV X.K T x H) :
  s.TypeIs v T/\∀a,v=.ref a->∃ob,s.heap.get? a=some ob/\ob.dict=none:=by
 cases x with
 | str z=>
  obtain ⟨t,rfl⟩:=r
  cases (show T="str" from ty)
  exact ⟨typeIs_str s z t,fun _ e=>nomatch e⟩
 | int i=>
  obtain ⟨t,rfl⟩:=r
  cases (show T="int" from ty)
  exact ⟨typeIs_int s i t,fun _ e=>nomatch e⟩
 | ref p=>
  cases r
  rcases ty with ⟨rfl,xs,hq⟩|⟨rfl,o,hk,hc,hd⟩|⟨rfl,hk⟩|⟨rfl,S,n,hk⟩
  ·obtain ⟨its,_,pl,_⟩:=I.list hq
   refine ⟨pl.isList.typeIs,fun a e=>?_⟩
   cases e
   obtain ⟨o,n,e,c,hd,_⟩:=pl
   exact ⟨o,e,hd⟩
  ·refine ⟨⟨o,I.kIn p o hk,hc⟩,fun a e=>?_⟩
   cases e
   exact ⟨o,I.kIn _ o hk,hd⟩
  ·have z:∃o,s.heap.get? p=some o/\o.ExactDict:=by
    rcases hk with ⟨kvs,hk⟩|⟨kvs,hk⟩
    ·obtain ⟨_,_,_,_,o,_,_,e,ex,_⟩:=I.hok p _ hk
     exact ⟨o,e,ex⟩
    ·obtain ⟨_,_,_,_,o,_,_,e,ex,_⟩:=I.hok p _ hk
     exact ⟨o,e,ex⟩
   obtain ⟨o,e,ex⟩:=z
   refine ⟨⟨o,e,ex.1⟩,fun a e2=>?_⟩
   cases e2
   exact ⟨o,e,ex.2.1⟩
  ·obtain ⟨o,_,_,_,e,ex,_⟩:=I.hok p _ hk
   refine ⟨⟨o,e,ex.1⟩,fun a e2=>?_⟩
   cases e2
   exact ⟨o,e,ex.2.1⟩
 | _=>exact False.elim ty
def tBM (K:PySem.W.Frag) (T:String) (r:V->List V->Hp->VK->Prop) (to:TE) (t:TA):TE:=fun σ H Q=>to σ H fun x H1=>tyV K T x H1/\t σ H1 fun xs H2=>r x xs H2 Q
variable {o e:Expr} {es:List Expr} {to:TE} {t:TA} {name:Str} {apos cpos:Pos} {T id:String} {r:V->List V->Hp->VK->Prop}
theorem pe_bm (pa:PlainAttrs T) (slot:Slot T name id) (hty:typeOf (.builtin id)=pure (.type "method_descriptor")) (hm:MtR X id r) (ho:PE X o to) (ha:PA X (e::es) t)
  (hbase:attributeBase o name X.env (eval o X.env)=eval o X.env:=by rfl)
  (hfew:((backTo cpos (starEach (e::es) X.env)).all (fun x=>!x.1) && (backToKw cpos (keywordEach [] X.env)).all (fun x=>x.1.isSome)
   && decide ((e::es).length+([]:List Keyword).length+(if ([]:List Keyword).isEmpty then 0 else 1)<30))=true:=by rfl)
  (hline:(apos.endLine == cpos.line)=true:=by rfl) (hs:starEach (e::es) X.env=(false,eval e X.env)::starEach es X.env:=by rfl) (hplain:(backTo cpos (starEach es X.env)).any (·.1)=false:=by rfl) :
  PE X (.Call (.Attribute o name apos) (e::es) [] cpos) (tBM X.K T r to t):=by
 intro pins s σ H Q I h
 refine wpAny_Call_method_late hbase hfew hline rfl (thn (ho pins s σ H _ I h) fun v s1 ⟨x,H1,I1,r1,ty,q1⟩=>?_)
 obtain ⟨h1,h2⟩:=tyV_is I1 r1 ty
 refine ⟨T,id,pa,slot,hty,h1,h2,?_⟩
 have hA:=ha cpos pins s1 σ H1 _ I1 q1
 rw [hs] at hA ⊢
 refine Calls.callWith_builtin (by show (false || (backTo cpos (starEach es X.env)).any (·.1))=false;rw [hplain]<;>rfl) (Calls.evalArgs_plain ?_)
 exact thn hA fun us s2 ⟨vs,H2,I2,r2,q2⟩=>hm pins s2 σ H2 x vs v us Q I2 r1 r2 q2
/- xs.append(e),list.index on a module's tuple .. are MtR facts of 06m -/
end
def MtM (X:Cx) (id:String) (r:V->List V->Hp->VK->Prop):Prop:=
 ∀(pins:List (Addr × Obj)) (s:Shared) (σ:St) (H:Hp) (x:V) (xs:List V) (v:Value) (us:List Value) (Q:VK),Inv X pins σ H s->RelV x v->Vals xs us->r x xs H Q->
  wpAny (model X.prog X.w) X.A (call (.builtin id) (v::us)) (EP X pins σ Q) X.xe s
theorem Vals.one:∀{x:V} {us:List Value},Vals [x] us->∃u,us=[u]/\RelV x u
 | _,_,.cons r .nil=>⟨_,rfl,r⟩
section
variable {X:Cx} {pins:List (Addr × Obj)} {σ:St} {H:Hp} {s:Shared} {l b:Addr} {xs ys zs:List V}
theorem Inv.lset {its its':List Value} {n:Nat} {f:Array Value->Array Value} {t':Nat} (I:Inv X pins σ H s) (hH:H l=some (.lst xs))
  (e:s.heap.get? l=some { cls:=.type "list",data:=.seq its.toArray n }) (hf:f its.toArray=its'.toArray) (hv:Vals ys its') (hz:ys.length<=sizeLine) :
  Inv X pins σ (upd H l (.lst ys)) { s with heap:=s.heap.update l (Obj.mapSeq f),toks:=t' }:=by
 have q:=PySem.IsL.update e f
 rw [hf] at q
 refine I.write (x:=l) (e:=l) (by rw [hH];exact trivial) (.inl rfl) (fun b' u hb hu=>(Heap.get?_update_other s.heap (Obj.mapSeq f) (Ne.symm hb)).trans hu) ⟨_,q⟩ ?_
 exact ⟨hz,its',_,hv,q⟩
theorem Inv.lnew {its:List Value} {t':Nat} (I:Inv X pins σ H s) (hv:Vals ys its) (hz:ys.length<=sizeLine) :
  Inv X pins σ (upd H s.heap.objs.size (.lst ys)) { s with heap:=s.heap.push { cls:=.type "list",data:=.seq its.toArray },toks:=t' }:=
 I.laid (fun _ _ q=>Heap.get?_push_of_some _ q) (Nat.le_refl _) ⟨hz,its,0,hv,Heap.get?_push_size _ rfl⟩
theorem Inv.fresh (I:Inv X pins σ H s):H s.heap.objs.size=none:=I.hok.fresh (Nat.le_refl _)
theorem Inv.lstM (I:Inv X pins σ H s) (hH:H l=some (.lst xs)):xs.length<=sizeLine/\∃(its:List Value) (n:Nat),Vals xs its/\xs.length=its.length/\s.heap.get? l=some { cls:=.type "list",data:=.seq its.toArray n }:=by
 obtain ⟨z,its,n,r,e⟩:=I.hok l _ hH
 exact ⟨z,its,n,r,r.length,e⟩
theorem notLongL {n:Nat} (h:n<=sizeLine):Builtin.List.listTooLong n=false:=by
 unfold Builtin.List.listTooLong
 exact decide_eq_false (by omega)
end
section
variable {X:Cx}
def rAppend:V->List V->Hp->VK->Prop:=fun x vs H Q=>∃l xs y,x=.ref l/\vs=[y]/\H l=some (.lst xs)/\xs.length<sizeLine/\Q .non (upd H l (.lst (xs++[y])))
theorem mt_append:MtM X "list.append" rAppend:=by
 intro pins s σ H x vs v us Q I rx rv h
 obtain ⟨l,xs,y,rfl,rfl,hH,hz,q⟩:=h
 cases rx
 obtain ⟨u,rfl,ru⟩:=rv.one
 obtain ⟨z,its,n,r,hl,e⟩:=I.lstM hH
 refine call_meets F.slot_list_append ⟨_,e,rfl⟩ F.entry_list_append (F.args_list_append_2 _ _) (PySem.list_append l its.toArray n u (by rw [List.size_toArray];omega)) ⟨e,?_⟩
 refine ⟨.non,_,I.lset (its':=its++[u]) hH e (by simp) (r.append (.cons ru .nil)) ?_,rfl,q⟩
 rw [List.length_append,List.length_singleton]
 omega
def rExtend:V->List V->Hp->VK->Prop:=fun x vs H Q=>∃l b xs zs,x=.ref l/\vs=[.ref b]/\H l=some (.lst xs)/\H b=some (.lst zs)/\xs.length+zs.length<=sizeLine/\Q .non (upd H l (.lst (xs++zs)))
theorem mt_extend:MtM X "list.extend" rExtend:=by
 intro pins s σ H x vs v us Q I rx rv h
 obtain ⟨l,b,xs,zs,rfl,rfl,hH,hB,hz,q⟩:=h
 cases rx
 obtain ⟨u,rfl,ru⟩:=rv.one
 cases ru
 obtain ⟨z,its,n,r,hl,e⟩:=I.lstM hH
 obtain ⟨z2,its2,n2,r2,hl2,e2⟩:=I.lstM hB
 have hsz:its.toArray.size+its2.toArray.size<=sizeLine:=by rw [List.size_toArray,List.size_toArray];omega
 have hlong:¬(!its.toArray.isEmpty && Builtin.List.listTooLong (its.toArray.size+its2.toArray.size))=true:=by
  rw [notLongL hsz,Bool.and_false]
  exact Bool.false_ne_true
 refine call_meets F.slot_list_extend ⟨_,e,rfl⟩ F.entry_list_extend (F.args_list_extend_2 _ _)
  (AutoSeq1.list_extend_list_list_0 l its.toArray n b its2.toArray n2 hlong (by rw [List.size_toArray];omega) (by omega)) ⟨e,e2,?_⟩
 refine ⟨.non,_,I.lset (its':=its++its2) hH e (by simp) (r.append r2) ?_,rfl,q⟩
 rw [List.length_append]
 omega
def rCat:R2:=fun x y H Q=>∃l b xs zs,x=.ref l/\y=.ref b/\H l=some (.lst xs)/\H b=some (.lst zs)/\xs.length+zs.length<=sizeLine/\∀p,H p=none->Q (.ref p) (upd H p (.lst (xs++zs)))
theorem op_cat:OpR X (binaryOp .Add) rCat:=by
 intro pins s σ H x y v u Q I rx ry h
 obtain ⟨l,b,xs,zs,rfl,rfl,hH,hB,hz,q⟩:=h
 cases rx
 cases ry
 obtain ⟨z,its,n,r,hl,e⟩:=I.lstM hH
 obtain ⟨z2,its2,n2,r2,hl2,e2⟩:=I.lstM hB
 refine PySem.P.add_list e e2 ?_ (by rw [List.size_toArray,List.size_toArray];omega)
 have ea:its.toArray++its2.toArray=(its++its2).toArray:=by simp
 rw [ea]
 exact ⟨.ref _,_,I.lnew (t':=s.toks) (r.append r2) (by rw [List.length_append];omega),rfl,q _ I.fresh⟩
end
end L2
namespace Att
open PySem PySem.W PySem.Calls PyProof.Rows
theorem ints_of_wellAll {P:Params} {h:Heap}:∀(ns:List Int) (vs:List Value),WellAll P h vs (ns.map WData.int)->IntsAre vs ns:=by
 intro ns
 induction ns with
 | nil=>
  intro vs w
  rw [List.map_nil] at w
  cases w
  exact .nil
 | cons n ns ih=>
  intro vs w
  rw [List.map_cons] at w
  cases w with
  | cons a b=>
   cases a
   exact .cons _ _ (ih _ b)
theorem script_of {l:OpenLaw} {n:Nat} (hn:l.most=some n) {P:Params} {h:Heap} {args:List WData} {vals:List Value}
  (hpre:l.row.toRowW.claim.pre args=true) (hwl:WellAll P h vals args) :
  ∃a vs ns,vals=[Value.ref a]/\args=[WData.list (ns.map WData.int)]/\h.get? a=some { cls:=.type "list",data:=.seq vs.toArray }/\IntsAre vs ns/\ns.length<=n:=by
 have hsh:WShape.hasAll [] args [.list .int]=true:=(pre_splitW hpre).1
 have hc:l.pre.holds [] { args:=args }=true:=(pre_splitW hpre).2
 obtain ⟨d,r,rfl,h1,h2⟩:=hasAllW_cons hsh
 obtain rfl:=hasAllW_nil h2
 obtain ⟨xs,rfl,h3⟩:=hasW_list h1
 obtain ⟨ns,rfl⟩:=items_int h3
 have hlen:ns.length<=n:=by
  unfold OpenLaw.pre at hc
  have h4:(WTm.not (.lt (.lit (.int (n:Int))) (.len (.arg 0)))).holds [] { args:=[.list (ns.map .int)] }=true:=by
   have h4:=(holds_andW hc).1
   rw [hn] at h4
   exact h4
  have h5:=condW_of h4 (w_not (w_lt w_lit (w_len_list (w_arg rfl))))
  rw [List.length_map] at h5
  refine Nat.le_of_not_lt fun q=>?_
  have q':(n:Int)<((ns.length:Nat):Int):=by omega
  first
   | (rw [decide_eq_true q'] at h5;exact absurd h5 (by decide))
   | (simp at h5;omega)
 cases hwl with
 | cons w1 w2=>
  cases w2
  cases w1 with
  | list ho hall=>exact ⟨_,_,ns,rfl,rfl,ho,ints_of_wellAll ns _ hall,hlen⟩
theorem post_true (l:OpenLaw) (args:List WData):l.row.toRowW.claim.post args (.bool true) args=true:=
 postW_of (r:=l.row.toRowW) (X:=(true == true))
  (show WShape.has [] (.bool true) .bool=true by first|rfl|decide|simp [WShape.has,WShape.arms,WShape.armsAll])
  (show (WTm.eq .res (.lit (.bool true))).value [] { args:=args,res:=some (.bool true),after:=args }=some (.bool (true == true)) from w_eq_bool (w_res rfl) w_lit) rfl
theorem attach_call {l:OpenLaw} {n:Nat} {q:Program} {loose:List Str} {XP:(Str->Option Value)->Heap->Prop} {YP:World->Heap->Prop} {d:DefRec}
  (hn:l.most=some n) (hdf:d.params.defaults=[])
  (call:∀(w:World) (s₀ s₁:Shared) (mg mb:Str->Option Value) (fa:Addr) (o:Obj) (pm cd doc:Value) (a:Addr) (vs:List Value) (ns:List Int),
   Ground q loose [] XP w s₀ mg mb s₁.heap->YP w s₁.heap->
   s₁.heap.get? fa=some o->o.data=.func (docDef d.name d.params d.body d.scope pm cd doc)->s₁.heap.CodeRec cd d.name->mg d.name=some (.ref fa)->
   s₁.heap.get? a=some { cls:=.type "list",data:=.seq vs.toArray }->IntsAre vs ns->ns.length<=n->s₁.gens=#[]->
   codeAny (model l.prog w) callerA (.call (.ref fa) ⟨[.ref a],[]⟩) (fun r s'=>r=.ok (.ret (.bool true))/\OldK s₁.heap s'.heap/\s'.os=s₁.os/\AllBare s'.gens) s₁) :
  WalkO q loose XP YP l.row.toRowW d [] (fun f vs=>PySem.call f vs):=by
 intro w s₀ s₁ mg mb G Y fa o pm cd doc dV kV ho hd hcd hD hmg hg args vals as hpre hlay hrd hwl hlo
 obtain rfl:dV=.none:=Dflts.none hD hdf
 obtain rfl:kV=.none:=Dflts.noKw hD
 obtain ⟨a,vs,ns,rfl,rfl,hobj,hints,hlen⟩:=script_of hn hpre hwl
 refine enter_call (codeAny_mono (call w s₀ s₁ mg mb fa o pm cd doc a vs ns G Y ho (fd_plain hd) hcd hmg hobj hints hlen hg) fun r s' hq=>?_)
 obtain ⟨rfl,h2,h3,h4⟩:=hq
 exact ⟨.inl ⟨.bool true,.bool true,[],rfl,fun _=>rfl,.bool true,post_true l _,fun _=>⟨List.Pairwise.nil,fun _ hm=>(nomatch hm)⟩⟩,h2,h3,h4⟩
section
variable {prog:Program} {w:World} {A:Around} {E:Value->Shared->Prop} {s:Shared} {K:Frag}
end
end Att
namespace L2
open PySem PySem.Spec PyProof.Rows
theorem vals_ints:∀{vs:List Value} {ns:List Int},IntsAre vs ns->Vals (ns.map V.int) vs
 | _,_,.nil=>.nil
 | _,_,.cons n t h=>.cons ⟨t,rfl⟩ (vals_ints h)
def Only (H:Hp):Prop:=∀b,H b=none\/∃o xs,H b=some (.frz o (.lst xs))
theorem law_call {P:Program} {w:World} {K:PySem.W.Frag} {mg mb:Str->Option Value} {CX:CXT} {k:Nat} {fa a:Addr} {fd:FuncData} {x:Str} {sp:Sp} {s₁:Shared} {vs:List Value} {ns:List Int}
  (KX:K.In s₁.heap) (hns:s₁.heap.Ns mainGlobals mg) (hb:s₁.heap.Ns builtinsNs mb) (hbb:∀x:Str,x≠"__name__"->mb x=bootBuiltins x) (hlim:s₁.heap.NoLimit) (hg:s₁.gens=#[])
  (ha:s₁.heap.get? a=some { cls:=.type "list",data:=.seq vs.toArray }) (hi:IntsAre vs ns) (hl:ns.length<=sizeLine) (hr:Room k callerA)
  (F:∀base:Heap,K.In base->base.Ns mainGlobals mg->FnOk P w K mg base CX k fa fd [x] sp) (hbind:∀(s:Shared) (u:Value),BindsTo s fd ⟨[u],[]⟩ [(x,u)])
  (hsp:∀H:Hp,Only H->SqL K H a (ns.map V.int)->sp [.ref a] H (fun v _=>v=.bl true) fun _ _ _=>False)
  (hCX:∀H e s',CX [] H s₁ (fun _ _ _=>False) e s'->False) :
  codeAny (model P w) callerA (.call (.ref fa) ⟨[.ref a],[]⟩) (fun r s'=>r=.ok (.ret (.bool true))/\OldK s₁.heap s'.heap/\s'.os=s₁.os/\AllBare s'.gens) s₁:=by
 have rv:=vals_ints hi
 have lenV:=hi.length
 -- from an abstract heap in which nothing but the script may be tracked
 have core:∀H:Hp,Only H->SqL K H a (ns.map V.int)->HOk P w H s₁.heap->(∀b,H b≠none->b=a)->(H a≠none->K.lookup a=none)->
   codeAny (model P w) callerA (.call (.ref fa) ⟨[.ref a],[]⟩) (fun r s'=>r=.ok (.ret (.bool true))/\OldK s₁.heap s'.heap/\s'.os=s₁.os/\AllBare s'.gens) s₁:=by
  intro H hO hS hok hA hK
  have base_of:∀{b:Addr} {o:Obj},s₁.heap.get? b=some o->H b=none->(hidT s₁.heap H).get? b=some o:=fun e n=>hidT_get e n
  have noA:∀{b:Addr} {o:Obj} {es:Array DictEntry} {ep:Nat},s₁.heap.get? b=some o->o.data=.dict es ep->H b=none:=fun {b o es ep} e d=>by
   cases q:H b with
   | none=>rfl
   | some u=>
    have e':b=a:=hA b (by rw [q];simp)
    subst e'
    rw [ha] at e;cases e
    have d':Data.seq vs.toArray _=Data.dict es ep:=d
    cases d'
  have nsK:∀{b:Addr} {m:Str->Option Value},s₁.heap.Ns b m->(hidT s₁.heap H).Ns b m:=fun {b m} ⟨o,es,ep,e,d,r⟩=>⟨o,es,ep,base_of e (noA e d),d,r⟩
  have hKb:K.In (hidT s₁.heap H):=fun b o e=>base_of (KX b o e) (by
   cases q:H b with
   | none=>rfl
   | some u=>
    have e':b=a:=hA b (by rw [q];simp)
    subst e'
    rw [hK (by rw [q];simp)] at e;cases e)
  have hM:Mod K mg (hidT s₁.heap H):=⟨hKb,nsK hns,⟨mb,nsK hb,hbb⟩,let ⟨mc,h1,h2⟩:=hlim;⟨mc,nsK h1,h2⟩⟩
  have e0:Env0 P w K mg (hidT s₁.heap H) callerA [] s₁ H:=⟨rfl,hM,fun b o e=>of_hidT e,Nat.le_of_eq (hidT_size _ _),trivial,fun b hb=>absurd (show b∈([]:List Addr) from hb) (by simp),hok,.of_eq hg⟩
  refine codeAny_mono ((F _ hKb (nsK hns)).run callerA [] s₁ H ⟨[.ref a],[]⟩ [.ref a] [.ref a] _ _ hr e0 (hbind s₁ (.ref a)) (.cons rfl .nil) (hsp H hO hS)) fun r s' h=>?_
  cases r with
  | error e=>exact (hCX H e s' h).elim
  | ok fl=>
   cases fl with
   | next=>exact False.elim h
   | brk=>exact False.elim h
   | cont=>exact False.elim h
   | ret u=>
    obtain ⟨v,H',os,bare,un,hok',r',q⟩:=h
    have q':v=.bl true:=q
    subst q'
    obtain rfl:u=Value.bool true:=r'
    refine ⟨rfl,OldK.of_keep fun b o e=>?_,os,bare⟩
    cases q:H b with
    | none=>exact un.keep b o e q (by intro z;exact absurd (show b∈([]:List Addr) from z) (by simp)) (by simp)
    | some u=>
     rcases hO b with z|⟨ob,xs,z⟩
     ·rw [q] at z;cases z
     ·have z2:=un.frzs b ob _ z
      obtain ⟨e1,_⟩:=hok b _ z
      obtain ⟨e2,_⟩:=hok' b _ z2
      rw [e] at e1;cases e1
      exact e2
 cases hk:K.lookup a with
 | some o=>
  -- the script is one of the module's own objects
  have e:=KX a o hk
  rw [ha] at e
  cases e
  refine core (fun _=>none) (fun _=>.inl rfl) (.inr ⟨_,vs.toArray,_,hk,rfl,rfl,rfl,by rw [List.size_toArray,lenV];exact hl,by simpa using rv⟩) (fun b u z=>by have z':(none:Option HO)=some u:=z;cases z') (fun b z=>absurd rfl z) fun z=>absurd rfl z
 | none=>
  refine core (fun b=>if b=a then some (.frz { cls:=.type "list",data:=.seq vs.toArray } (.lst (ns.map V.int))) else none) (fun b=>?_) (.inl (.inr ⟨{ cls:=.type "list",data:=.seq vs.toArray },if_pos rfl⟩)) (fun b u z=>?_) (fun b z=>?_) fun _=>hk
  ·by_cases hb:b=a
   ·exact .inr ⟨_,_,if_pos hb⟩
   ·exact .inl (if_neg hb)
  ·by_cases hb:b=a
   ·have z':=(if_pos hb).symm.trans z
    cases z'
    subst hb
    exact ⟨ha,by rw [List.length_map];exact hl,vs,_,rv,ha⟩
   ·have z':=(if_neg hb).symm.trans z
    cases z'
  ·by_cases hb:b=a
   ·exact hb
   ·exact absurd (if_neg hb) z
theorem walk_of {l:PySem.W.OpenLaw} {n k:Nat} {q:Program} {loose:List Str} {XP:(Str->Option Value)->Heap->Prop} {YP:World->Heap->Prop} {d:DefRec} {K:Params->PySem.W.Frag} {CX:World->CXT} {sp:World->Sp} {x:Str}
  (hn:l.most=some n) (hn2:n<=sizeLine) (hdf:d.params.defaults=[]) (hr:Room k callerA)
  (hY:∀(w:World) (h:Heap),YP w h->(K w.params).In h)
  (F:∀(w:World) (mg:Str->Option Value) (fa:Addr) (h:Heap),(K w.params).In h->h.Ns mainGlobals mg->mg d.name=some (.ref fa)->
   ∃fd:FuncData,(∀(s:Shared) (u:Value),BindsTo s fd ⟨[u],[]⟩ [(x,u)]) /\
    ∀base:Heap,(K w.params).In base->base.Ns mainGlobals mg->FnOk l.prog w (K w.params) mg base (CX w) k fa fd [x] (sp w))
  (hsp:∀(w:World) (H:Hp) (a:Addr) (ns:List Int),ns.length<=n->Only H->SqL (K w.params) H a (ns.map V.int)->sp w [.ref a] H (fun v _=>v=.bl true) fun _ _ _=>False)
  (hCX:∀(w:World) (H:Hp) (s:Shared) (e:Value) (s':Shared),CX w [] H s (fun _ _ _=>False) e s'->False) :
  PySem.W.WalkO q loose XP YP l.row.toRowW d [] (fun f vs=>PySem.call f vs):=by
 refine Att.attach_call hn hdf fun w s₀ s₁ mg mb fa o pm cd doc a vs ns G Y ho hd hcd hmg hobj hints hlen hg=>?_
 have KX:=hY w _ Y
 obtain ⟨fd,hb,hF⟩:=F w mg fa _ KX G.T.g hmg
 exact law_call KX G.T.g G.T.b G.T.builtins G.T.nolimit hg hobj hints (Nat.le_trans hlen hn2) hr hF hb (fun H hO hS=>hsp w H a ns hlen hO hS) fun H e s'=>hCX w H s₁ e s'
end L2
/- THE LAST THEOREM (shape;LID,My.* are yours):
  My.Adr: a structure of the addresses that your layer names (classes,functions);My.Txt K t: a structure (Prop) of the equations over K;
  My.txt_mk:{K} {implicit addresses ..} (e1:nsIn K mainGlobals "law"=some (some (.ref f))) (e2:K.lookup f=some ⟨oc,od,.func (fnOf "law" "law" params body scope dV kV doc pm an cdv ct),sl⟩) (e3:codeIn K cdv "law"=true) ..:∃t,My.Txt K t
set_option maxRecDepth 100000 in
set_option maxHeartbeats 0 in
theorem PySem.Challenge.cw_LID_holds : PySem.Challenge.rw_LID.Holds := by
 w_on;o_law;k_head;(case hw=>w_witness2)
 k_fill
 refine L2.walk_of (l:=PySem.Challenge.rw_LID) (n:=63) (k:=40) (x:="script") (CX:=fun w=>..) (sp:=fun _=>My.sp_law) rfl (by decide) rfl ⟨rfl,by decide,by decide⟩ (fun w h Y=>PySem.W.kIn_of Y) ?F ?S ?C
 case F=>
  intro w mg fa h KX G hmg
  have T:∃t,My.Txt (L2.KOf KX) t:=by
   dsimp only [L2.KOf]                          -- K must stand as «<heap const> w.params» for k_is
   refine' My.txt_mk ?e1 ?e2 ?e3 ..
   (case e1=>PySem.W.k_is)                    -- in the order: a name -> its address -> its object -> its parts
   (case e2=>PySem.W.k_is)
   ..
  obtain ⟨t,T⟩:=T
  have e0:=hmg.symm.trans (PySem.W.mg_of KX G T.law)
  cases e0                                       -- fa is the law's own address
  exact ⟨_,fun s u=>.of_eq rfl,fun base kb nb=>My.law_fn T kb nb⟩     -- if «.of_eq rfl» comes too early: refine' ⟨_,?b,fun base kb nb=>My.law_fn T kb nb⟩;exact fun s u=>.of_eq rfl
 case S=>exact fun w H a ns hl hO hS=>..
 case C=>exact ..
(the tactic k_is has no namespace: write k_is) -/
namespace L2
open PySem PySem.Spec PyProof.Rows
def defArgs (s:Stmt):Arguments:=match s with
 | .FunctionDef _ a _ _ _ _ _ _ _ _=>a
 | _=>{ posonlyargs:=[],args:=[],vararg:=none,kwonlyargs:=[],kw_defaults:=[],kwarg:=none,defaults:=[] }
def defBody (s:Stmt):List Stmt:=match s with
 | .FunctionDef _ _ b _ _ _ _ _ _ _=>b
 | _=>[]
def defScope (s:Stmt):Scope:=match s with
 | .FunctionDef _ _ _ _ _ _ sc _ _ _=>sc
 | _=>{ kind:=.function,names:=[],isGenerator:=false,isCoroutine:=false }
abbrev CX0:CXT:=fun _ _ _ _ _ _=>False
abbrev E0:XK:=fun _ _ _=>False
theorem pass0 {X:Cx}:Passes CX0 X E0:=fun _ _ _ _ _ _ _ h=>h.elim
structure Fun (K:PySem.W.Frag) (x qual:Str) (st:Stmt) (f:Addr) (fd:FuncData):Prop where
 ex:∃(oc:Value) (od:Option Addr) (kV doc pm:Value) (an:Option Addr) (cdv ct:Value) (osl:Array (Option Value)),
  fd=PySem.W.fnOf x qual (defArgs st) (defBody st) (defScope st) .none kV doc pm an cdv ct/\K.lookup f=some ⟨oc,od,.func fd,osl⟩/\PySem.W.codeIn K cdv qual=true
 kp:PySem.W.keepIn K (.ref f)=true
section
variable {P:Program} {w:World} {K:PySem.W.Frag} {mg:Str->Option Value} {base:Heap}
theorem Fun.ok {x qual:Str} {st:Stmt} {f:Addr} {fd:FuncData} {N ps:List Str} {k:Nat} {sp:Sp} (F:Fun K x qual st f fd) (S:FnScope N ps (defScope st)) (len:∀vs H Q E,sp vs H Q E->vs.length=ps.length)
  (hbody:∀(cdv:Value) (A:Around) (outer:List Env) (s:Shared) (H:Hp) (vs:List V) (Q:VK) (E:XK),Room k (A.deeper (envOfC qual (defScope st) s.heap.objs.size f cdv))->sp vs H Q E->
   ∃t,PSs (cxOf CX0 P w K mg base N qual (defScope st) f cdv A outer s H E).nox (defBody st) t/\t { nx:=fun _ H'=>Q .non H',rt:=Q } (start N vs) H):FnOk P w K mg base CX0 (k+1) f fd ps sp:=by
 obtain ⟨oc,od,kV,doc,pm,an,cdv,ct,osl,rfl,lk,hcd⟩:=F.ex
 refine fn_of lk hcd S len fun A outer s H vs Q E hr hsp=>?_
 obtain ⟨t,h,q⟩:=hbody cdv A outer s H vs Q E hr hsp
 exact ⟨t,h.nox,q⟩
theorem Fun.binds {x qual:Str} {st:Stmt} {f:Addr} {fd:FuncData} {ps:List Str} (F:Fun K x qual st f fd)
  (h:∀(kV doc pm:Value) (an:Option Addr) (cdv ct:Value) (us:List Value),us.length=ps.length->bindArgs (PySem.W.fnOf x qual (defArgs st) (defBody st) (defScope st) .none kV doc pm an cdv ct) ⟨us,[]⟩=pure (ps.zip us)):Binds K fd ps []:=by
 obtain ⟨oc,od,kV,doc,pm,an,cdv,ct,osl,rfl,lk,hcd⟩:=F.ex
 exact .all (h kV doc pm an cdv ct)
theorem fun_mk {x qual:Str} {st:Stmt} {f:Addr} {oc:Value} {od an:Option Addr} {osl:Array (Option Value)} {kV doc pm cdv ct:Value} (l:K.lookup f=some ⟨oc,od,.func (PySem.W.fnOf x qual (defArgs st) (defBody st) (defScope st) .none kV doc pm an cdv ct),osl⟩)
  (c:PySem.W.codeIn K cdv qual=true) (k:PySem.W.keepIn K (.ref f)=true):Fun K x qual st f (PySem.W.fnOf x qual (defArgs st) (defBody st) (defScope st) .none kV doc pm an cdv ct):=⟨⟨oc,od,kV,doc,pm,an,cdv,ct,osl,rfl,l,c⟩,k⟩
end
section
variable {X:Cx}
theorem pv (i:Nat) {x:Str} {pos:Pos} (hN:X.N[i]? = some x:=by rfl) (hv:Vis X.env.scope x:=by first|exact Or.inl rfl|exact Or.inr (Or.inl rfl)|exact Or.inr (Or.inr rfl)) (hd:(x == ("__debug__":Str))=false:=by decide)
  (hcd:(x == ("__classdict__":Str))=false:=by decide):PE X (.Name x pos) (tVar i):=pe_var hN hv hd hcd
end
theorem ite2 {c A B:Prop} [Decidable c] (h1:c->A) (h2:¬c->B):if c then A else B:=by
 by_cases h:c
 ·rw [if_pos h]
  exact h1 h
 ·rw [if_neg h]
  exact h2 h
def Same (H H':Hp):Prop:=∀b o,H b=some o->H' b=some o
theorem Same.refl (H:Hp):Same H H:=fun _ _ h=>h
theorem Same.trans {H H1 H2:Hp} (a:Same H H1) (b:Same H1 H2):Same H H2:=fun c o h=>b c o (a c o h)
theorem Same.free {H H':Hp} (e:Same H H') {l:Addr} (h:H' l=Option.none):H l=Option.none:=by
 cases q:H l with
 | none=>rfl
 | some o=>
  rw [e l o q] at h
  cases h
theorem Same.seq {K:PySem.W.Frag} {H H':Hp} {a:Addr} {xs:List V} (e:Same H H') (h:SqL K H a xs):SqL K H' a xs:=by
 rcases h with (h|⟨o,h⟩)|h
 ·exact .inl (.inl (e _ _ h))
 ·exact .inl (.inr ⟨o,e _ _ h⟩)
 ·exact .inr h
end L2
set_option maxHeartbeats 4000000
namespace L2
open PySem PySem.Spec PyProof.Rows
def closL (cells:List (Str × Addr)):List (Str × NameKind)->List (Str × Addr)->List (Str × Addr)
 | [],cs=>cs
 | (n,k)::r,cs=>closL cells r (if k == .free then (match cells.lookup n with|some c=>(n,c)::cs|none=>cs) else cs)
theorem closureFor_eq {scope : Scope} {env : Env} (h : ∀ x ∈ scope.names, x.2 = .free → (env.cells.lookup x.1).isSome = true) :
    closureFor scope env = pure (closL env.cells scope.names []) := by
  have all : ∀ (names : List (Str × NameKind)) (cs : List (Str × Addr)), (∀ x ∈ names, x.2 = .free → (env.cells.lookup x.1).isSome = true) →
      (do let mut ds := cs
          for (name, kind) in names do
            if kind == .free then ds := (name, ← cellOf env name) :: ds
          return ds : Sem (List (Str × Addr))) = pure (closL env.cells names cs) := by
    intro names
    induction names with
    | nil => intro cs _; rfl
    | cons y r ih =>
      intro cs hn
      obtain ⟨n, k⟩ := y
      have hr := fun x hx => hn x (List.mem_cons_of_mem _ hx)
      simp only [List.forIn_cons]
      cases hk : k == NameKind.free with
      | false =>
        have e : closL env.cells ((n, k) :: r) cs = closL env.cells r cs := by
          show closL env.cells r (if k == .free then _ else cs) = _
          rw [hk]; rfl
        rw [e, ← ih cs hr]
        simp
      | true =>
        have hk' : k = .free := by simpa using hk
        have hs := hn (n, k) List.mem_cons_self hk'
        obtain ⟨c, hc⟩ := Option.isSome_iff_exists.mp hs
        have e : closL env.cells ((n, k) :: r) cs = closL env.cells r ((n, c) :: cs) := by
          show closL env.cells r (if k == .free then (match env.cells.lookup n with | some c => (n, c) :: cs | none => cs) else cs) = _
          rw [hk, hc]; rfl
        rw [e, ← ih ((n, c) :: cs) hr]
        simp [cellOf, hc]
  have q := all scope.names [] h
  unfold closureFor
  exact q
theorem closL_sub {cells:List (Str × Addr)}:∀{names:List (Str × NameKind)} {cs:List (Str × Addr)} {x:Str} {c:Addr},(closL cells names cs).lookup x=some c->
  cs.lookup x=some c\/cells.lookup x=some c
 | [],_,_,_,h=>.inl h
 | (n,k)::r,cs,x,c,h=>by
  have q:=closL_sub (names:=r) (x:=x) (c:=c) h
  rcases q with q|q
  ·cases hk:k == NameKind.free with
   | false=>rw [hk] at q;exact .inl q
   | true=>
    rw [hk] at q
    cases hc:cells.lookup n with
    | none=>rw [hc] at q;exact .inl q
    | some d=>
     rw [hc] at q
     simp only [if_true,List.lookup_cons] at q
     cases hx:x == n with
     | true=>
      rw [hx] at q
      have e:x=n:=by simpa using hx
      subst e
      rw [hc];exact .inr q
     | false=>rw [hx] at q;exact .inl q
  ·exact .inr q
theorem closL_keep {cells:List (Str × Addr)}:∀{names:List (Str × NameKind)} {cs:List (Str × Addr)} {x:Str} {c:Addr},cs.lookup x=some c->∃d,(closL cells names cs).lookup x=some d
 | [],_,_,c,h=>⟨c,h⟩
 | (n,k)::r,cs,x,c,h=>by
  show ∃d,(closL cells r _).lookup x=some d
  have more:∃d,(if k == NameKind.free then (match cells.lookup n with|some c=>(n,c)::cs|none=>cs) else cs).lookup x=some d:=by
   cases hk:k == NameKind.free with
   | false=>exact ⟨c,h⟩
   | true=>
    cases hc:cells.lookup n with
    | none=>exact ⟨c,h⟩
    | some d=>
     simp only [if_true,List.lookup_cons]
     cases hx:x == n with
     | true=>exact ⟨d,rfl⟩
     | false=>exact ⟨c,h⟩
  obtain ⟨d,hd⟩:=more
  exact closL_keep hd
theorem closL_has {cells:List (Str × Addr)}:∀{names:List (Str × NameKind)} {cs:List (Str × Addr)} {x:Str},(x,NameKind.free)∈names->(cells.lookup x).isSome=true->∃d,(closL cells names cs).lookup x=some d
 | (n,k)::r,cs,x,hm,hs=>by
  rcases List.mem_cons.mp hm with e|hm
  ·cases e
   obtain ⟨c,hc⟩:=Option.isSome_iff_exists.mp hs
   show ∃d,(closL cells r _).lookup _=some d
   refine closL_keep (c:=c) ?_
   simp [hc]
  ·exact closL_has (names:=r) hm hs
def cxComp (X:Cx) (scope:Scope) (N:List Str) (C:Addr) (s:Shared) (H:Hp) (fp:List Addr):Cx where
 prog:=X.prog
 w:=X.w
 K:=X.K
 mg:=X.mg
 base:=X.base
 A:=X.A
 N:=N
 s₀:=s
 H₀:=H
 env:=compEnvC scope (closL X.env.cells scope.names []) C X.env
 outer:=X.stack
 stack:=X.stack
 ex:=fp
 calm:=true
 fn:=fun _=>false
 pn:=[]
 xe:=fun _ _=>False
structure CompScope (X:Cx) (scope:Scope) (N:List Str) (k:Nat):Prop where
 kind:scope.kind=.function
 nocell:∀y∈scope.names,y.2≠.cell
 nd:N.Nodup
 len:N.length=k+X.N.length
 loc:∀x∈scope.names,x.2=.local->scope.names.lookup x.1=some .local
 free:∀x∈scope.names,x.2=.free->X.env.kindOf x.1=some .cell\/X.env.kindOf x.1=some .free
 own:∀i x,i<k->N[i]? = some x->scope.names.lookup x=some .local
 out:∀i x,N[k+i]? = some x->(scope.names.lookup x).isSome=true->X.N[i]? = some x/\scope.names.lookup x=some .free\/scope.names.lookup x=some .globalImplicit
def tYes:TT:=fun _ H k=>k true H
def tComp (k:Nat) (wi:TI) (g:TG) (tt:TT) (te:TE):TE:=fun σ H Q=>wi σ H fun J H1=>∃W:Nat->Nat->List V->St->Hp->Prop,(∃m,W 0 m [] (List.replicate k none++σ) H1) /\
 ∀i m ys σ1 H',W i m ys σ1 H'->
  (J.stop i H'/\∀D,H' D=none->Q (.ref D) (upd H' D (.lst ys))) \/
  (J.go i H'/\ys.length<sizeLine/\∃N:List V->St->Hp->Prop,(∀zs σ' H'',N zs σ' H''->∃m',m'<m/\W (i+1) m' zs σ' H'') /\
   ∀x H2,J.yld i H' x H2->g x σ1 H2 fun σ2 H3=>tt σ2 H3 fun b H4=>if b=true then te σ2 H4 fun y H5=>N (ys++[y]) σ2 H5 else N ys σ2 H4)
theorem lookup_relabel {env:Env}:∀{names:List (Str × NameKind)} {x:Str} {k:NameKind},names.lookup x=some k->
  (names.map fun (n,k)=>if (k == NameKind.free && env.scope.kind == .function && env.kindOf n == some .cell) then (n,NameKind.cell) else (n,k)).lookup x
   = some (if (k == NameKind.free && env.scope.kind == .function && env.kindOf x == some .cell) then NameKind.cell else k)
 | [],_,_,h=>by simp at h
 | (n,k)::r,x,k',h=>by
  have ih:=@lookup_relabel env r x k'
  show List.lookup x ((if (k == NameKind.free && env.scope.kind == .function && env.kindOf n == some .cell)=true then (n,NameKind.cell) else (n,k))::_)=_
  cases hx:x == n with
  | true=>
   simp only [List.lookup_cons,hx] at h
   cases h
   have e:x=n:=by simpa using hx
   subst e
   by_cases hc:(k == NameKind.free && env.scope.kind == .function && env.kindOf x == some .cell)=true
   ·rw [if_pos hc,if_pos hc];simp [List.lookup_cons]
   ·rw [if_neg hc,if_neg hc];simp [List.lookup_cons]
  | false=>
   simp only [List.lookup_cons,hx] at h
   by_cases hc:(k == NameKind.free && env.scope.kind == .function && env.kindOf n == some .cell)=true
   ·rw [if_pos hc];simp only [List.lookup_cons,hx];exact ih h
   ·rw [if_neg hc];simp only [List.lookup_cons,hx];exact ih h
theorem lookup_relabel_none {env:Env}:∀{names:List (Str × NameKind)} {x:Str},names.lookup x=none->
  (names.map fun (n,k)=>if (k == NameKind.free && env.scope.kind == .function && env.kindOf n == some .cell) then (n,NameKind.cell) else (n,k)).lookup x=none
 | [],_,_=>rfl
 | (n,k)::r,x,h=>by
  have ih:=@lookup_relabel_none env r x
  show List.lookup x ((if (k == NameKind.free && env.scope.kind == .function && env.kindOf n == some .cell)=true then (n,NameKind.cell) else (n,k))::_)=_
  cases hx:x == n with
  | true=>
   simp only [List.lookup_cons,hx] at h
   cases h
  | false=>
   simp only [List.lookup_cons,hx] at h
   by_cases hc:(k == NameKind.free && env.scope.kind == .function && env.kindOf n == some .cell)=true
   ·rw [if_pos hc];simp only [List.lookup_cons,hx];exact ih h
   ·rw [if_neg hc];simp only [List.lookup_cons,hx];exact ih h
def PTs (X:Cx) (ifs:List Expr) (t:TT):Prop:=
 ∀(pins:List (Addr × Obj)) (s:Shared) (σ:St) (H:Hp) (Q:Bool->Hp->Prop),Inv X pins σ H s->t σ H Q->
  wpAny (model X.prog X.w) X.A (forIn ifs true fun c r=>if r=true then do let ok <-isTrue c X.env (eval c X.env);pure (ForInStep.yield ok) else pure (ForInStep.yield r)) (TP X pins σ Q) X.xe s
theorem pts_nil {X:Cx}:PTs X [] tYes:=fun _ _ _ H _ I h=>wpAny_tests_nil ⟨H,I,h⟩
section
variable {X:Cx} {scope:Scope} {N:List Str} {k:Nat} {pins:List (Addr × Obj)} {σ:St} {H:Hp} {s:Shared} {fp:List Addr}
theorem comp_start {h:Heap} {D:Addr} {C:Addr} {oD:Obj} {t':Nat} (S:CompScope X scope N k) (hc:X.calm=true) (I:Inv X pins σ H s) (hf:∀b∈fp,FpOk X pins H b) (ho:∀b∈fp,∃o,s.heap.get? b=some o/\∀v,o.data≠.cell v)
  (hC:s.heap.objs.size<C) (hD:D=s.heap.objs.size) (keep:∀b o,s.heap.get? b=some o->h.get? b=some o) (hDo:h.get? D=some oD) (hDc:∀v,oD.data≠.cell v) (hn:h.Ns C (fun _=>none)) :
  Inv (cxComp X scope N C s H fp) [(D,oD)] (List.replicate k none++σ) H { s with heap:=h,toks:=t' }:=by
 have fpLt:∀b∈fp,b<s.heap.objs.size:=fun b hb=>by obtain ⟨o,e,_⟩:=ho b hb;exact Heap.lt_size e
 have sub:∀x c,(closL X.env.cells scope.names []).lookup x=some c->X.env.cells.lookup x=some c:=fun x c e=>by
  rcases closL_sub e with z|z
  ·simp at z
  ·exact z
 have cellLt:∀x c,X.env.cells.lookup x=some c->c<s.heap.objs.size:=fun x c e=>by
  obtain ⟨v,q⟩:=I.cell x c e
  exact q.lt
 have cellK:∀c v,s.heap.IsCell c v->h.IsCell c v:=fun c v ⟨o,e,d⟩=>⟨o,keep c o e,d⟩
 refine ⟨⟨I.ok.mod,S.kind,?_,?_,Nat.le_of_lt hC,fun x y c h1 h2=>I.ok.inj x y c (sub x c h1) (sub y c h2),fun x hx=>?_,fun x c z=>absurd (show false=true from z) Bool.false_ne_true,fun _=>I.ok.hd hc,I.ok.frames,.inl rfl,fun b hb=>⟨Nat.ne_of_lt (Nat.lt_trans (fpLt b hb) hC),fun x c e=>(hf b hb).2.2.2.2.1 x c (sub x c e)⟩,
   I.bs,Nat.le_trans I.ok.bsz I.sz,fun b o e hb=>?_,fun b hb z=>?_,I.stack,I.stkFree⟩,rfl,I.bare,Un.kept keep,⟨_,hn,fun i x v e1 e2 e3=>?_⟩,fun x c e=>?_,I.hok.fresh (Nat.le_of_lt hC),fun x c e=>I.freeC x c (sub x c e),fun p hp=>?_,I.hok.kept keep,?_⟩
 ·exact I.ok.glob
 ·exact I.ok.blt
 ·-- every captured name has its cell
  have hx':(relabel scope X.env).names.lookup x=some .cell\/(relabel scope X.env).names.lookup x=some .free:=hx
  cases hl:scope.names.lookup x with
  | none=>
   have q:=lookup_relabel_none (env:=X.env) hl
   unfold relabel at hx'
   rcases hx' with z|z<;>(rw [q] at z;cases z)
  | some kd=>
   have q:=lookup_relabel (env:=X.env) hl
   have hm:=PySem.mem_of_lookup hl
   have hfr:kd=.free:=by
    by_cases z:kd=.free
    ·exact z
    ·unfold relabel at hx'
     have z':(kd == NameKind.free)=false:=by simpa using z
     rw [z'] at q
     simp only [Bool.false_and,Bool.false_eq_true,if_false] at q
     rcases hx' with y|y
     ·rw [q] at y
      have y':kd=.cell:=Option.some.inj y
      exact absurd y' (S.nocell _ hm)
     ·rw [q] at y;exact absurd (Option.some.inj y) z
   subst hfr
   obtain ⟨c,hc'⟩:=I.ok.has x (S.free _ hm rfl)
   exact closL_has hm (by rw [hc'];rfl)
 ·-- the base's records are no iterator's
  obtain ⟨_,_,_,z,_⟩:=hf b hb
  rcases z with z|z
  ·exact I.ok.noex b o e z
  ·exact absurd (Nat.lt_of_lt_of_le (Heap.lt_size e) (Nat.le_trans I.ok.bsz z)) (Nat.lt_irrefl _)
 ·obtain ⟨_,z1,z2,_⟩:=hf b hb
  rcases List.mem_cons.mp (I.stkSub b z) with y|y
  ·exact z1 y
  ·exact z2 y
 ·-- the names
  have e1':N[i]? = some x:=e1
  by_cases hi:i<k
  ·rw [List.getElem?_append_left (by simpa using hi),List.getElem?_replicate,if_pos hi] at e2
   cases e2
  ·obtain ⟨j,rfl⟩:∃j,i=k+j:=⟨i - k,by omega⟩
   rw [List.getElem?_append_right (by simp),List.length_replicate,Nat.add_sub_cancel_left] at e2
   have e3':(relabel scope X.env).names.lookup x=some .local\/(relabel scope X.env).names.lookup x=some .cell\/(relabel scope X.env).names.lookup x=some .free:=e3
   cases hl:scope.names.lookup x with
   | none=>
    have q:=lookup_relabel_none (env:=X.env) hl
    unfold relabel at e3'
    rcases e3' with z|z|z<;>(rw [q] at z;cases z)
   | some kd=>
    have q:=lookup_relabel (env:=X.env) hl
    rcases S.out j x e1' (by rw [hl];rfl) with ⟨o1,o2⟩|o
    ·rw [hl] at o2;cases o2
     have hm:=PySem.mem_of_lookup hl
     have hv:Vis X.env.scope x:=by
      rcases S.free _ hm rfl with z|z
      ·exact .inr (.inl z)
      ·exact .inr (.inr z)
     obtain ⟨m,hns,hlk⟩:=I.loc
     obtain ⟨u,r,l⟩:=hlk j x v o1 e2 hv
     refine ⟨u,r,.inr ⟨?_,?_⟩⟩
     ·show (relabel scope X.env).names.lookup x=some .cell\/(relabel scope X.env).names.lookup x=some .free
      unfold relabel
      rw [q]
      split
      ·exact .inl rfl
      ·exact .inr rfl
     ·rcases l with ⟨z,_⟩|⟨_,c,e,z⟩
      ·rcases S.free _ hm rfl with y|y<;>(rw [show X.env.kindOf x=some NameKind.local from z] at y;cases y)
      ·obtain ⟨d,hd⟩:=closL_has (cs:=[]) hm (by rw [e];rfl)
       have hd':=sub x d hd
       rw [e] at hd';cases hd'
       exact ⟨c,hd,cellK _ _ z⟩
    ·rw [hl] at o;cases o
     simp only [show (NameKind.globalImplicit == NameKind.free)=false from rfl,Bool.false_and,Bool.false_eq_true,if_false] at q
     unfold relabel at e3'
     rcases e3' with z|z|z<;>(rw [q] at z;cases z)
 ·obtain ⟨v,q⟩:=I.cell x c (sub x c e)
  exact ⟨v,cellK _ _ q⟩
 ·have e:p=(D,oD):=by
   have hp':p∈([]:List (Addr × Obj))++[(D,oD)]:=hp
   simpa using hp'
  subst e
  refine ⟨hDo,I.hok.fresh (by rw [hD];exact Nat.le_refl _),?_,fun z=>?_,hDc⟩
  ·show D≠C
   rw [hD];exact Nat.ne_of_lt hC
  ·have:=I.stkSub D z
   rcases List.mem_cons.mp this with y|y
   ·rw [hD] at y;exact absurd I.lt (by rw [<-y];exact Nat.lt_irrefl _)
   ·exact I.nofs (by rw [hD];exact Nat.le_refl _) y
 ·show (List.replicate k none++σ).length=N.length
  rw [List.length_append,List.length_replicate,S.len,I.len]
end
section
variable {X:Cx} {scope:Scope} {N:List Str} {k:Nat} {pins:List (Addr × Obj)} {σ:St} {H:Hp} {s:Shared} {fp:List Addr}
theorem comp_end {h':Heap} {D C:Addr} {σ1:St} {H1:Hp} {s1:Shared} {ys:List V} {its:List Value} {n:Nat} (I:Inv X pins σ H s) (hf:∀b∈fp,FpOk X pins H b)
  (hC:s.heap.objs.size<C) (hD:D=s.heap.objs.size)
  (J:Inv (cxComp X scope N C s H fp) [(D,{ cls:=.type "list",data:=.seq its.toArray n })] σ1 H1 s1) (rv:Vals ys its) (hz:ys.length<=sizeLine) (sb:Heap.SameBut C s1.heap h') :
  Inv X pins σ (upd H1 D (.lst ys)) { s1 with heap:=h' }:=by
 obtain ⟨eD,nD,neC,_,_⟩:=J.pin (D,{ cls:=.type "list",data:=.seq its.toArray n }) (by simp)
 have neC':D≠C:=neC
 have nC:H1 C=none:=J.free
 have B:Un (frs X.stack) fp H H1 s.heap s1.heap:=J.base
 have lt:∀{b:Addr} {o:Obj},s.heap.get? b=some o->b≠C/\b≠D:=fun {b o} e=>⟨Nat.ne_of_lt (Nat.lt_trans (Heap.lt_size e) hC),by rw [hD];exact Nat.ne_of_lt (Heap.lt_size e)⟩
 refine I.call' (s':={ s1 with heap:=h' }) (ch:=fp) (show s1.os=s.os from J.os) ?_ ?_ J.bare fun b hb=>?_
 ·refine ⟨fun b o q n hb hx=>(sb.2 b (lt q).1).trans (B.keep b o q n hb hx),fun b o q n hb hx=>?_,fun b o q n hx=>?_,fun b o q hx=>?_,fun b xs q=>?_,fun b o xs q=>?_,fun b ps q=>?_⟩
  ·obtain ⟨sl,e⟩:=B.slot b o q n hb hx
   exact ⟨sl,(sb.2 b (lt q).1).trans e⟩
  ·rw [upd_ne (lt q).2];exact B.free b o q n hx
  ·obtain ⟨o',e⟩:=B.there b o q hx
   exact ⟨o',(sb.2 b (lt q).1).trans e⟩
  ·have e:=B.tups b xs q
   rw [upd_ne (ne_of_none e nD)];exact e
  ·have e:=B.frzs b o xs q
   rw [upd_ne (ne_of_none e nD)];exact e
  ·obtain ⟨m,e⟩:=B.tbls b ps q
   exact ⟨m,by rw [upd_ne (ne_of_none e nD)];exact e⟩
 ·intro a o e
  by_cases ha:a=D
  ·subst ha
   rw [upd_same] at e;cases e
   exact ⟨hz,its,n,rv,(sb.2 _ neC').trans eD⟩
  ·rw [upd_ne ha] at e
   refine (J.hok a o e).stay (fun b u hb q=>(sb.2 b ?_).trans q) (fun b q=>?_) fun b xs q=>?_
   ·rcases hb with rfl|hb
    ·exact ne_of_none e nC
    ·exact ne_of_none hb nC
   ·rw [upd_ne (ne_of_none q nD)];exact q
   ·rw [upd_ne (ne_of_none q nD)];exact q
 ·obtain ⟨_,z1,z2,z3,z4,z5⟩:=hf b hb
  exact ⟨z3,z1,z4,z5⟩
theorem codeAny_compLoop_gen {prog:Program} {w:World} {A:Around} {elt target iter:Expr} {ifs:List Expr} {scope:Scope} {pos:Pos} {it acc:Value} {env:Env} {R:Result->Shared->Prop} {s:Shared} (I:Nat->Shared->Prop)
  (turn:∀n s,I n s->wpAny (model prog w) A (pyNext it) (fun r s₁=>match r with
   | none=>R (.ok .next) s₁
   | some v=>wpAny (model prog w) A (letOwnedTupleGo target it v) (fun _ s₁'=>wpAny (model prog w) A (assign target env v) (fun _ s₂=>
     wpAny (model prog w) A (forIn ifs true fun c r=>if r=true then do let ok <-isTrue c env (eval c env);pure (ForInStep.yield ok) else pure (ForInStep.yield r)) (fun ok s₃=>
      if ok=true then wpAny (model prog w) A (eval elt env) (fun x s₄=>
       wpAny (model prog w) A (call (.builtin "list.append") [acc,x]) (fun _ s₅=>∃m,m<n/\I m s₅) (fun _ _=>False) s₄) (fun _ _=>False) s₃
      else ∃m,m<n/\I m s₃) (fun _ _=>False) s₂) (fun _ _=>False) s₁') (fun _ _=>False) s₁) (fun _ _=>False) s)
  (n:Nat) (h:I n s):codeAny (model prog w) A (.compLoop (.ListComp elt [⟨target,iter,ifs,0⟩] scope pos) 0 it acc env) R s:=by
 refine codeAny_loop rfl I (fun n s hI=>?_) n h
 show wpAny _ A ((compTurn (.ListComp elt [⟨target,iter,ifs,0⟩] scope pos) 0 it acc env).onRaise (fun x=>do noteFrame x env;theTreesLotGoes x)) _ _ s
 refine wpAny_noted ?_
 rw [compTurn_list]
 refine wpAny_bind (wpAny_standAt (wpAny_bind (wpAny_mono (turn n s hI) (fun r s₁ h₁=>?_) fun _ _ h'=>h'.elim)))
 cases r with
 | none=>exact wpAny_pure h₁
 | some v=>
  refine wpAny_bind (wpAny_mono h₁ (fun _ s₁' h₁'=>?_) fun _ _ h'=>h'.elim)
  refine wpAny_bind (wpAny_mono h₁' (fun _ s₂ h₂=>wpAny_bind (wpAny_mono h₂ (fun ok s₃ h₃=>?_) fun _ _ h'=>h'.elim)) fun _ _ h'=>h'.elim)
  cases ok with
  | false=>exact wpAny_pure ⟨rfl,h₃⟩
  | true=>
   exact wpAny_bind (wpAny_bind (wpAny_mono h₃ (fun x s₄ h₄=>wpAny_bind (wpAny_mono h₄ (fun _ s₅ h₅=>wpAny_pure (wpAny_pure ⟨rfl,h₅⟩)) fun _ _ h'=>h'.elim)) fun _ _ h'=>h'.elim))
theorem comp_run {elt iter tg:Expr} {ifs:List Expr} {pos fpos:Pos} {wi:TI} {g:TG} {tt:TT} {te:TE} {use:Option (Value->Sem Unit)} {Qc:Value->Shared->Prop} {Q:VK} (S:CompScope X scope N k) (hc:X.calm=true) (hi:PI X tg iter wi)
  (hg:∀C s H fp,PG (cxComp X scope N C s H fp) tg g) (ht:∀C s H fp,PTs (cxComp X scope N C s H fp) ifs tt) (he:∀C s H fp,PE (cxComp X scope N C s H fp) elt te)
  (hs:∀x,foldedSetIterable iter X.env x=pure x) (I:Inv X pins σ H s) (h:tComp k wi g tt te σ H Q)
  (fin:∀(s2:Shared) (H2:Hp) (fp:List Addr) (C:Addr) (σ5:St) (H5:Hp) (s5:Shared) (ys:List V) (its:List Value) (n:Nat),Inv X pins σ H2 s2->(∀b∈fp,FpOk X pins H2 b)->s2.heap.objs.size<C->
   Inv (cxComp X scope N C s2 H2 fp) [(s2.heap.objs.size,{ cls:=.type "list",data:=.seq its.toArray n })] σ5 H5 s5->Vals ys its->ys.length<=sizeLine->Q (.ref s2.heap.objs.size) (upd H5 s2.heap.objs.size (.lst ys))->
   compPost (model X.prog X.w) X.A X.xe use Qc (.ref s2.heap.objs.size) C (.ok .next) s5) :
  wpAny (model X.prog X.w) X.A (comprehension (.ListComp elt [⟨tg,iter,ifs,0⟩] scope pos) scope X.env fpos (newList []) false (eval iter X.env) use) Qc X.xe s:=by
 have hclos:closureFor scope X.env=pure (closL X.env.cells scope.names []):=closureFor_eq fun x hx hk=>by
  obtain ⟨c,e⟩:=I.ok.has x.1 (S.free x hx hk)
  rw [e];rfl
 refine wpAny_comprehension_free (use:=use) rfl hs hclos S.kind S.loc (thn (hi pins s σ H _ I h) fun v s1 h1=>thn h1 fun itv s2 h2=>?_)
 obtain ⟨it,fp,tn,J,H2,e,I2,T,st2,f2,W,⟨m0,w0⟩,turn⟩:=h2
 subst e
 have ho2:=T.obj 0 _ st2
 have fpLt:∀b∈fp,b<s2.heap.objs.size:=fun b hb=>by obtain ⟨o,e,_⟩:=ho2 b hb;exact Heap.lt_size e
 refine wpAny_newObj_type (wpAny_newFunctionEnv S.nocell (by intro y hy;simp at hy) (fun h₁ hns₁ hsb₁=>?_) S.kind)
 dsimp only at hns₁ hsb₁ ⊢
 generalize hH2:s2.heap.push { cls:=.type "list",dict:=none,data:=.seq ([]:List Value).toArray }=HH at hns₁ hsb₁ ⊢
 have hCs:HH.objs.size=s2.heap.objs.size+1:=by rw [<-hH2,Heap.size_push]
 have hC:s2.heap.objs.size<HH.objs.size:=by rw [hCs];exact Nat.lt_succ_self _
 have old:∀b o,s2.heap.get? b=some o->h₁.get? b=some o:=fun b o e=>hsb₁.extBut b o (Nat.ne_of_lt (Nat.lt_trans (Heap.lt_size e) hC)) (Heap.get?_push_of_some _ (hH2▸Heap.get?_push_of_some _ e))
 have hacc:h₁.get? s2.heap.objs.size=some { cls:=.type "list",data:=.seq ([]:List Value).toArray }:=hsb₁.extBut _ _ (Nat.ne_of_lt hC) (Heap.get?_push_of_some _ (hH2▸Heap.get?_push_size _ rfl))
 generalize HH.objs.size=C at *
 let X':=cxComp X scope N C s2 H2 fp
 have stat:∀{H':Hp} {o:Obj},(∀b∈fp,H' b=none)->∀b∈fp,FpOk X' [(s2.heap.objs.size,o)] H' b:=fun {H' o} hn b hb=>by
  obtain ⟨z0,z1,z2,z3,z4,z5⟩:=f2 b hb
  refine ⟨hn b hb,Nat.ne_of_lt (Nat.lt_trans (fpLt b hb) hC),fun z=>?_,.inl hb,fun x c e=>?_,fun p hp=>?_⟩
  ·rcases List.mem_cons.mp (I2.stkSub b z) with y|y
   ·exact z1 y
   ·exact z2 y
  ·rcases closL_sub (show (closL X.env.cells scope.names []).lookup x=some c from e) with y|y
   ·simp at y
   ·exact z4 x c y
  ·have e:p=(s2.heap.objs.size,o):=by
    have hp':p∈([]:List (Addr × Obj))++[(s2.heap.objs.size,o)]:=hp
    simpa using hp'
   subst e
   exact Ne.symm (Nat.ne_of_lt (fpLt b hb))
 have I3:Inv X' [(s2.heap.objs.size,{ cls:=.type "list",data:=.seq ([]:List Value).toArray })] (List.replicate k none++σ) H2 { s2 with heap:=h₁,toks:=s2.toks+([]:List (Str × Value)).length }:=
  comp_start S hc I2 f2 ho2 hC rfl old hacc (fun v z=>by cases z) (by simpa using hns₁)
 have loop:∀s₃:Shared,s₃={ s2 with heap:=h₁,toks:=s2.toks+([]:List (Str × Value)).length }->
   codeAny (model X.prog X.w) X.A (.compLoop (.ListComp elt [⟨tg,iter,ifs,0⟩] scope pos) 0 (.ref it) (.ref s2.heap.objs.size) (compEnvC scope (closL X.env.cells scope.names []) C X.env))
    (compPost (model X.prog X.w) X.A X.xe use Qc (.ref s2.heap.objs.size) C) s₃:=by
  rintro s₃ rfl
  refine codeAny_compLoop_gen (fun m s'=>∃i ys its n σ' H',Inv X' [(s2.heap.objs.size,{ cls:=.type "list",data:=.seq (its:List Value).toArray n })] σ' H' s'/\Vals ys its/\ys.length<=sizeLine/\tn i s'.heap/\(∀b∈fp,H' b=none)/\W i m ys σ' H') ?_ m0
   ⟨0,[],[],0,_,H2,I3,.nil,Nat.zero_le _,T.keep _ _ _ st2 fun b _ o e=>old b o e,fun b hb=>(f2 b hb).1,w0⟩
  rintro m s4 ⟨i,ys,its,n,σ4,H4,I4,rv,hz,st4,fr4,w4⟩
  rcases turn i m ys σ4 H4 w4 with ⟨stop,qn⟩|⟨go,hlt,M,hM,step⟩
  ·refine thn (T.done X' rfl rfl rfl rfl i _ s4 σ4 H4 (fun _ _=>False) I4 (stat fr4) st4 stop) fun r s5 ⟨hr,I5⟩=>?_
   subst hr
   have nD:=(I5.pin (s2.heap.objs.size,{ cls:=.type "list",data:=.seq its.toArray n }) (by simp)).2.1
   exact fin s2 H2 fp C _ _ _ ys its n I2 f2 hC I5 rv hz (qn _ nD)
  ·refine thn (T.item X' rfl rfl rfl rfl i _ s4 σ4 H4 (fun _ _=>False) I4 (stat fr4) st4 go) fun r s5 ⟨u,hr,h5⟩=>?_
   subst hr
   refine thn h5 fun _ s6 ⟨x,H6,I6,r6,y6,st6,fr6⟩=>?_
   have I6':=I6.pinned (stat fr6) (T.obj _ _ st6)
   have back:∀{σ7:St} {H7:Hp} {s7:Shared},Inv X' ([(s2.heap.objs.size,{ cls:=.type "list",data:=.seq its.toArray n })]++pinsAt fp s6.heap) σ7 H7 s7->tn (i+1) s7.heap/\∀b∈fp,H7 b=none:=fun {σ7 H7 s7} I7=>by
    refine ⟨T.keep _ _ _ st6 fun b hb o e=>(I7.pin (b,o) (List.mem_append_right _ (List.mem_append_right _ (mem_pinsAt hb e)))).1,fun b hb=>?_⟩
    obtain ⟨o,e,d⟩:=T.obj _ _ st6 b hb
    exact (I7.pin (b,o) (List.mem_append_right _ (List.mem_append_right _ (mem_pinsAt hb e)))).2.1
   refine thn (hg C s2 H2 fp _ s6 σ4 H6 x u _ I6' r6 (step x H6 y6)) fun _ s7 ⟨σ7,H7,I7,q7⟩=>?_
   refine thn (ht C s2 H2 fp _ s7 σ7 H7 _ I7 q7) fun b s8 ⟨H8,I8,q8⟩=>?_
   cases b with
   | false=>
    rw [if_neg Bool.false_ne_true] at q8 ⊢
    obtain ⟨m',hm,w'⟩:=hM _ _ _ q8
    obtain ⟨t8,f8⟩:=back I8
    exact ⟨m',hm,i+1,ys,its,n,σ7,H8,I8.unpinned,rv,hz,t8,f8,w'⟩
   | true=>
    rw [if_pos rfl] at q8 ⊢
    refine thn (he C s2 H2 fp _ s8 σ7 H8 _ I8 q8) fun y s9 ⟨z,H9,I9,r9,q9⟩=>?_
    obtain ⟨t9,f9⟩:=back I9
    have I9u:=I9.unpinned
    obtain ⟨eD,nD,neC,nfD,_⟩:=I9u.pin (s2.heap.objs.size,{ cls:=.type "list",data:=.seq its.toArray n }) (by simp)
    refine call_meets F.slot_list_append ⟨_,eD,rfl⟩ F.entry_list_append (F.args_list_append_2 _ _) (PySem.list_append s2.heap.objs.size its.toArray n y (by rw [List.size_toArray,<-rv.length];omega)) ⟨eD,?_⟩
    obtain ⟨m',hm,w'⟩:=hM _ _ _ q9
    have q:=PySem.IsL.update eD (fun a=>a.push y)
    have eA:(its.toArray.push y)=(its++[y]).toArray:=by simp
    have q':∃n',(s9.heap.update s2.heap.objs.size (Obj.mapSeq fun a=>a.push y)).get? s2.heap.objs.size=some { cls:=.type "list",data:=.seq (its++[y]).toArray n' }:=by
     rw [<-eA];exact ⟨_,q⟩
    obtain ⟨n',q'⟩:=q'
    have kp:∀b o,b≠s2.heap.objs.size->s9.heap.get? b=some o->(s9.heap.update s2.heap.objs.size (Obj.mapSeq fun a=>a.push y)).get? b=some o:=fun b o hb e=>(Heap.get?_update_other s9.heap _ (Ne.symm hb)).trans e
    have I9n:Inv X' [] σ7 H9 s9:=I9u.pins_of fun p hp=>nomatch hp
    have I10:Inv X' [] σ7 H9 { s9 with heap:=s9.heap.update s2.heap.objs.size (Obj.mapSeq fun a=>a.push y),toks:=s9.toks }:=
     I9n.turned (t':=s9.toks) kp nD neC (.inr (Nat.le_refl _)) (fun x c e=>by
      rcases closL_sub (show (closL X.env.cells scope.names []).lookup x=some c from e) with w|w
      ·simp at w
      ·obtain ⟨v,zc⟩:=I2.cell x c w
       exact Nat.ne_of_lt zc.lt) (fun p hp=>nomatch hp)
    refine ⟨m',hm,i+1,ys++[z],its++[y],n',σ7,H9,?_,rv.append (.cons r9 .nil),?_,?_,f9,w'⟩
    ·refine I10.pins_of fun p hp=>?_
     have e:p=(s2.heap.objs.size,{ cls:=.type "list",data:=.seq (its++[y]).toArray n' }):=by simpa using hp
     subst e
     exact ⟨q',nD,neC,nfD,fun v w=>by cases w⟩
    ·rw [List.length_append,List.length_singleton];omega
    ·exact T.keep _ _ _ t9 fun b hb o e=>kp b o (Nat.ne_of_lt (fpLt b hb)) e
 exact codeAny_compStart_list (loop _ rfl) (T.self _ 0 _ _ _ (T.keep _ _ _ st2 fun b _ o e=>old b o e) (loop _ rfl))
theorem pe_comp {elt iter tg:Expr} {ifs:List Expr} {pos:Pos} {wi:TI} {g:TG} {tt:TT} {te:TE} (S:CompScope X scope N k) (hc:X.calm=true) (hi:PI X tg iter wi)
  (hg:∀C s H fp,PG (cxComp X scope N C s H fp) tg g) (ht:∀C s H fp,PTs (cxComp X scope N C s H fp) ifs tt) (he:∀C s H fp,PE (cxComp X scope N C s H fp) elt te)
  (hs:∀x,foldedSetIterable iter X.env x=pure x:=by intro _;rfl):PE X (.ListComp elt [⟨tg,iter,ifs,0⟩] scope pos) (tComp k wi g tt te):=by
 intro pins s σ H Q I h
 rw [eval_ListComp]
 refine comp_run S hc hi hg ht he hs I h fun s2 H2 fp C σ5 H5 s5 ys its n I2 f2 hC I5 rv hz q=>?_
 obtain ⟨mC,hnC,_⟩:=I5.loc
 refine ⟨mC,hnC,fun h' sb=>?_⟩
 exact ⟨.ref s2.heap.objs.size,_,comp_end I2 f2 hC rfl I5 rv hz sb,rfl,q⟩
end
section
variable {prog:Program} {w:World} {A:Around} {E:Value->Shared->Prop} {s:Shared}
end
section
variable {prog:Program} {w:World} {A:Around} {E:Value->Shared->Prop} {s:Shared}
end
section
variable {X:Cx} {pins:List (Addr × Obj)} {σ:St} {H H':Hp} {s:Shared} {h':Heap}
theorem vals_intsAre:∀{ns:List Int} {us:List Value},Vals (ns.map V.int) us->IntsAre us ns
 | [],_,.nil=>.nil
 | n::r,_,.cons h t=>by
  obtain ⟨tk,rfl⟩:=h
  exact .cons n tk (vals_intsAre t)
def rEqL (K:PySem.W.Frag):R2:=fun x y H Q=>∃(a b:Addr) (ns ms:List Int),x=.ref a/\y=.ref b/\SqL K H a (ns.map V.int)/\SqL K H b (ms.map V.int)/\Q (.bl (decide (ns=ms))) H
def rNeL (K:PySem.W.Frag):R2:=fun x y H Q=>∃(a b:Addr) (ns ms:List Int),x=.ref a/\y=.ref b/\SqL K H a (ns.map V.int)/\SqL K H b (ms.map V.int)/\Q (.bl (!decide (ns=ms))) H
theorem op_eqL (hu:X.A.units+64<cLine):OpR X (compareOp .Eq) (rEqL X.K):=by
 intro pins s σ H x y v u Q I rx ry h
 obtain ⟨a,b,ns,ms,rfl,rfl,h1,h2,q⟩:=h
 cases rx
 cases ry
 obtain ⟨i1,r1,p1,_⟩:=I.list h1
 obtain ⟨i2,r2,p2,_⟩:=I.list h2
 exact PySem.W.eq_intsK p1.isList (vals_intsAre r1) p2.isList (vals_intsAre r2) hu ⟨.bl _,H,I,rfl,q⟩
theorem op_neL (hu:X.A.units+64<cLine):OpR X (compareOp .NotEq) (rNeL X.K):=by
 intro pins s σ H x y v u Q I rx ry h
 obtain ⟨a,b,ns,ms,rfl,rfl,h1,h2,q⟩:=h
 cases rx
 cases ry
 obtain ⟨i1,r1,p1,_⟩:=I.list h1
 obtain ⟨i2,r2,p2,_⟩:=I.list h2
 exact PySem.W.ne_intsK p1.isList (vals_intsAre r1) p2.isList (vals_intsAre r2) hu ⟨.bl _,H,I,rfl,q⟩
theorem vals_rev {xs:List V} {us:List Value} (r:Vals xs us):Vals xs.reverse us.reverse:=by
 induction r with
 | nil=>exact .nil
 | cons h t ih=>
  rw [List.reverse_cons,List.reverse_cons]
  exact ih.append (.cons h .nil)
def tRev (K:PySem.W.Frag) (te:TE):TE:=fun σ H Q=>te σ H fun x H1=>∃(a:Addr) (xs:List V),x=.ref a/\SqL K H1 a xs/\∀p,H1 p=none->Q (.ref p) (upd H1 p (.lst xs.reverse))
theorem pe_rev {e:Expr} {te:TE} {pos p1 p2 p3:Pos} {j} (he:PE X e te):PE X (.Subscript e (.Slice none none (some (.UnaryOp .USub (.Constant (.int 1) j p1) p2)) p3) pos) (tRev X.K te):=by
 intro pins s σ H Q I h
 refine Subscript_ (thn (he pins s σ H _ I h) fun v s1 ⟨x,H1,I1,r1,q1⟩=>?_)
 obtain ⟨a,xs,rfl,hq,q⟩:=q1
 cases r1
 refine wpAny_Slice ?_
 rw [evalPart_none]
 refine wpAny_pure ?_
 refine wpAny_pure ?_
 rw [evalPart_some]
 refine thn ((pe_un un_neg pe_int:PE X _ _) pins s1 σ H1 (fun y H2=>y=.int (-1)/\H2=H1) I1 ⟨1,rfl,rfl,rfl⟩) fun w s2 ⟨y,H2,I2,r2,q2⟩=>?_
 obtain ⟨rfl,rfl⟩:=q2
 obtain ⟨tk,rfl⟩:=r2
 have I3:Inv X pins σ H2 { s2 with heap:=s2.heap.push { cls:=.type "slice",data:=.fields #[.none,.none,.int (-1) tk] } }:=I2.kept (t':=s2.toks) fun b ob q=>Heap.get?_push_of_some _ q
 obtain ⟨its,rv,pl,hz⟩:=I3.list hq
 show wpAny (model X.prog X.w) X.A (subscriptTail e (.Slice none none (some (.UnaryOp .USub (.Constant (.int 1) j p1) p2)) p3) (.ref a) (.ref s2.heap.objs.size)) (EP X pins σ Q) X.xe { s2 with heap:=s2.heap.push { cls:=.type "slice",data:=.fields #[.none,.none,.int (-1) tk] } }
 refine tail_any (ops:=[.ref a,.ref s2.heap.objs.size]) pl.isList.typeIs slot_list_getitem.lookup ?_ (by with_unfolding_all rfl)
 have hl:=rv.length
 refine wpAny_getItem_list_slice pl.isList (Heap.IsSliceOf.new ..) .none .none (.int (-1) tk) (by simp) ?_ (by rw [List.size_toArray]<;>omega)
 rw [PySem.W.krv_pick]
 refine ⟨.ref _,_,I3.laid (t':=s2.toks) (o:=.lst xs.reverse) (fun b ob q=>Heap.get?_push_of_some _ q) (Nat.le_refl _) ?_,rfl,q _ (I3.hok.fresh (Nat.le_refl _))⟩
 exact ⟨by rw [List.length_reverse];exact hz,its.reverse,0,vals_rev rv,Heap.get?_push_size _ rfl⟩
def CDivB (i j:Int):Prop:=0<j/\j.natAbs.log2<9000
theorem op_fdivB:OpR X (binaryOp .FloorDiv) (rI CDivB fun i j=>.int (i / j)):=opI fun i j _ _ _ _ _ hc q=>by
 have h1:(0:Int)<j:=hc.1
 refine floordiv_int (by omega) ?_ (.inl (PyProof.noPylong_of_log2 hc.2))
 rw [Int.fdiv_eq_ediv_of_nonneg _ (by omega)]
 exact q
end
structure DefAt (K:PySem.W.Frag) (mg:Str->Option Value) (x:Str) (st:Stmt) (ps:List Str) where
 f:Addr
 fd:FuncData
 F:Fun K x x st f fd
 m:mg x=some (.ref f)
 b:Binds K fd ps []
theorem pe_callD {X:Cx} {x:Str} {st:Stmt} {ps:List Str} {k:Nat} {sp:Sp} {e:Expr} {es:List Expr} {p pos:Pos} {t:TA} (D:DefAt X.K X.mg x st ps) (G:FnOk X.prog X.w X.K X.mg X.base CX0 k D.f D.fd ps sp) (hr:Room k X.A) (ha:PA X (e::es) t)
  (hg:Gl X x:=by rfl) (hdb:(x == ("__debug__":Str))=false:=by decide) (he:starEach (e::es) X.env=(false,eval e X.env)::starEach es X.env:=by rfl) (hpl:(backTo pos (starEach es X.env)).any (·.1)=false:=by rfl) :
  PE X (.Call (.Name x p) (e::es) [] pos) (tCall sp [] E0 t):=
 pe_call G hr hg D.m D.F.kp D.b .nil pass0 ha hdb he hpl
structure CompSc (osc:Scope) (oN:List Str) (scope:Scope) (N:List Str) (k:Nat):Prop where
 kind:scope.kind=.function
 nocell:∀y∈scope.names,y.2≠.cell
 nd:N.Nodup
 len:N.length=k+oN.length
 loc:∀x∈scope.names,x.2=.local->scope.names.lookup x.1=some .local
 free:∀x∈scope.names,x.2=.free->osc.names.lookup x.1=some .cell\/osc.names.lookup x.1=some .free
 own:∀x∈N.take k,scope.names.lookup x=some .local
 out:∀p∈(N.drop k).zip oN,(scope.names.lookup p.1).isSome=true->p.1=p.2/\scope.names.lookup p.1=some .free\/scope.names.lookup p.1=some .globalImplicit
theorem CompScope.of {X:Cx} {scope:Scope} {N:List Str} {k:Nat} (S:CompSc X.env.scope X.N scope N k):CompScope X scope N k where
 kind:=S.kind
 nocell:=S.nocell
 nd:=S.nd
 len:=S.len
 loc:=S.loc
 free:=S.free
 own:=fun i x hi e=>S.own x (by
  have:(N.take k)[i]? = some x:=by rw [List.getElem?_take_of_lt hi];exact e
  exact List.mem_of_getElem? this)
 out:=fun i x e hs=>by
  have hl:=S.len
  have hi:k+i<N.length:=(List.getElem?_eq_some_iff.mp e).1
  have hi':i<X.N.length:=by omega
  have e1:(N.drop k)[i]? = some x:=by rw [List.getElem?_drop];exact e
  have e2:X.N[i]? = some X.N[i]:=List.getElem?_eq_getElem hi'
  have e3:((N.drop k).zip X.N)[i]? = some (x,X.N[i]):=by
   rw [List.getElem?_zip_eq_some]
   exact ⟨e1,e2⟩
  rcases S.out _ (List.mem_of_getElem? e3) hs with ⟨z1,z2⟩|z
  ·exact .inl ⟨by rw [e2];exact congrArg some z1.symm,z2⟩
  ·exact .inr z
theorem same_upd {H:Hp} {p:Addr} (h:H p=none) (o:HO):Same H (upd H p o):=fun b u q=>by rw [upd_ne (ne_of_none q h)];exact q
section
variable {X:Cx} {K:PySem.W.Frag}
theorem sl_listK (h:X.K=K):SlR X (rSlL K):=by subst h;exact sl_list
theorem op_eqLK (h:X.K=K) (hu:X.A.units+64<cLine):OpR X (compareOp .Eq) (rEqL K):=by subst h;exact op_eqL hu
theorem op_neLK (h:X.K=K) (hu:X.A.units+64<cLine):OpR X (compareOp .NotEq) (rNeL K):=by subst h;exact op_neL hu
def rLen (K:PySem.W.Frag):List V->Hp->VK->Prop:=fun xs H Q=>∃p ys,xs=[.ref p]/\(SqL K H p ys\/SqT K H p ys)/\Q (.int ys.length) H
theorem call_lenK (h:X.K=K):CallR X (.builtin "len") (rLen K):=by subst h;exact call_len_seq
theorem pi_listK {tg l:Expr} {tl:TE} (h:X.K=K) (hl:PE X l tl):PI X tg l (iList K tl):=by subst h;exact pi_list hl
theorem pe_revK {e:Expr} {te:TE} {pos p1 p2 p3:Pos} {j} (h:X.K=K) (he:PE X e te):PE X (.Subscript e (.Slice none none (some (.UnaryOp .USub (.Constant (.int 1) j p1) p2)) p3) pos) (tRev K te):=by subst h;exact pe_rev he
end
section
variable {X:Cx} {pins:List (Addr × Obj)} {σ:St} {H:Hp} {s:Shared} {a:Addr} {y v:V} {u r:Value} {o:Option V} {A:Around} {E:Value->Shared->Prop}
end
end L2
namespace L2
open PySem PySem.Spec PyProof.Rows Builtin Builtin.Str
section
variable {X:Cx} {K:PySem.W.Frag}
theorem vals_strs:∀{ts:List Str} {us:List Value},Vals (ts.map V.str) us->∃l:List (Str × Tok),us=strValues l/\l.map (·.1)=ts
 | [],_,r=>by cases r;exact ⟨[],rfl,rfl⟩
 | t::ts,_,r=>by
  cases r with
  | cons h r=>
   obtain ⟨u,rfl⟩:=h
   obtain ⟨l,e1,e2⟩:=vals_strs r
   exact ⟨(t,u)::l,by rw [e1];rfl,by rw [<-e2];rfl⟩
theorem strs_vals:∀(l:List (Str × Tok)),Vals ((l.map (·.1)).map V.str) (strValues l)
 | []=>.nil
 | p::l=>.cons ⟨p.2,rfl⟩ (strs_vals l)
def rJoin (K:PySem.W.Frag):V->List V->Hp->VK->Prop:=fun x vs H Q=>∃(sep:Str) (a:Addr) (ts:List Str),x=.str sep/\vs=[.ref a]/\SqL K H a (ts.map V.str)/\JoinOk sep ts=true/\Q (.str (Txt.join sep ts)) H
theorem mt_join:MtR X "str.join" (rJoin X.K):=by
 intro pins s σ H x vs v us Q I rx rv h
 obtain ⟨sep,a,ts,rfl,rfl,hq,ok,q⟩:=h
 obtain ⟨t,rfl⟩:=rx
 obtain ⟨u,rfl,ru⟩:=rv.one
 cases ru
 obtain ⟨its,rl,pl,hz⟩:=I.list hq
 obtain ⟨l,rfl,e⟩:=vals_strs rl
 exact SC.join pl.isList e ok fun t' k=>⟨.str _,H,I.tok _,⟨_,rfl⟩,q⟩
theorem mt_joinK (h:X.K=K):MtR X "str.join" (rJoin K):=by subst h;exact mt_join
theorem split_exact {prog:Program} {w:World} {A:Around} {E:Value->Shared->Prop} {s:Shared} {x y:Str} {t u:Tok} {Q:Value->Shared->Prop} (hy:(y.length == 0)=false) (hsz:x.length<=100000)
  (hq:∀(l:List (Str × Tok)) (k:Nat),l.map (·.1)=Txt.split x y->Q (.ref s.heap.objs.size) { s with toks:=k,heap:=s.heap.push { cls:=.type "list",data:=.seq (strValues l).toArray } }) :
  wpAny (model prog w) A (call (.builtin "str.split") [.str x t,.str y u]) Q E s:=by
 have hx:x.length<=sizeLine:=Nat.le_trans hsz (by decide)
 cases h1:(decide (x.length<y.length) || decide (strKind x<strKind y))
 ·cases hf:(occurrences x y 0 x.length (x.length+1)).isEmpty
  ·have hn:(partsBetween x (occurrences x y 0 x.length (x.length+1)) y.length).length<=sizeLine:=by
    have h2:=StrLaws.occ_length_le x y 0 x.length (x.length+1)
    rw [StrLaws.partsBetween_eq]
    have h3:∀(cuts:List Nat) (a:Nat),(StrLaws.partsFrom x y.length a cuts).length=cuts.length+1:=fun cuts=>by
     induction cuts with
     | nil=>intro a;rfl
     | cons c r ih=>intro a;show (StrLaws.partsFrom x y.length (c+y.length) r).length+1=r.length+1+1;rw [ih]
    rw [h3,sizeLine_eq];omega
   refine call_meets F.slot_str_split (typeIs_str _ _ _) F.entry_str_split (F.args_str_split_2 _ _) (meets_str_split_sep x y t u h1 hy hf hx hn) ?_
   show wants Q E _ { s with toks:=_,heap:=s.heap.push { cls:=.type "list",data:=.seq (strsFrom s.toks (partsBetween x (occurrences x y 0 x.length (x.length+1)) y.length)).toArray } }
   rw [strsFrom_eq]
   exact hq (numbered s.toks _) _ ((numbered_texts _ _).trans ((if_neg (ne_true_of_eq_false h1)).trans (if_neg (ne_true_of_eq_false hf))).symm)
  ·exact call_meets F.slot_str_split (typeIs_str _ _ _) F.entry_str_split (F.args_str_split_2 _ _) (meets_str_split_not_found x y t u h1 hy hf) (hq [(x,t)] s.toks ((if_neg (ne_true_of_eq_false h1)).trans (if_pos hf)).symm)
 ·exact call_meets F.slot_str_split (typeIs_str _ _ _) F.entry_str_split (F.args_str_split_2 _ _) (meets_str_split_cannot_occur x y t u h1) (hq [(x,t)] s.toks (if_pos h1).symm)
def rSplit:V->List V->Hp->VK->Prop:=fun x vs H Q=>∃(z y:Str),x=.str z/\vs=[.str y]/\(y.length == 0)=false/\z.length<=100000/\(Txt.split z y).length<=100000/\∀l,H l=none->Q (.ref l) (upd H l (.lst ((Txt.split z y).map V.str)))
theorem mt_split:MtR X "str.split" rSplit:=by
 intro pins s σ H x vs v us Q I rx rv h
 obtain ⟨z,y,rfl,rfl,hy,hz,hl,q⟩:=h
 obtain ⟨t,rfl⟩:=rx
 obtain ⟨u,rfl,ru⟩:=rv.one
 obtain ⟨t',rfl⟩:=ru
 refine split_exact hy hz fun l k e=>?_
 rw [<-e] at hl q
 rw [List.length_map] at hl
 exact ⟨.ref _,_,I.laid (t':=k) (fun b o e=>Heap.get?_push_of_some _ e) (Nat.le_refl _) (show ObjOk X.prog X.w _ _ _ (.lst _) from ⟨by rw [List.length_map,List.length_map,sizeLine_eq];omega,strValues l,0,strs_vals l,Heap.get?_push_size _ rfl⟩),rfl,q _ (I.hok.fresh (Nat.le_refl _))⟩
def Its (x:Str):It:=⟨fun i _=>i<x.cps.size,fun i H v H'=>H'=H/\∃c,x.cps[i]? = some c/\v=.str ⟨#[c]⟩,fun i _=>x.cps.size<=i⟩
theorem turn_str {P:Program} {w:World} {tg:Expr} (it:Addr) (x:Str) (t:Tok):Turn P w K tg (Its x) [it] it (fun i h=>h.IsStrIter it "str_ascii_iterator" x t i) where
 mem:=by simp
 obj:=fun i h st b hb=>by
  have e:b=it:=by simpa using hb
  subst e
  obtain ⟨o,e,c,d⟩:=st
  exact ⟨o,e,fun v z=>by rw [d] at z;cases z⟩
 keep:=fun i h h' st k=>let ⟨o,ho,r⟩:=st;⟨o,k it (by simp) o ho,r⟩
 item:=by
  intro X hP hw hK hc i pins s σ H E I hf st hg
  subst hP hw hK
  obtain ⟨f0,f1,f2,f3,f4,f5⟩:=hf it (by simp)
  have hi:i<x.cps.size:=hg
  refine wpAny_pyNext_ascii_item st (c:=x.cps[i]) (by simp [hi]) fun h' st' sb=>?_
  have I1:Inv X pins σ H { s with heap:=h',toks:=s.toks+1 }:=I.turned (t':=s.toks+1) (fun b o hb e=>(sb.2 b hb).trans e) f0 f1 f3 f4 f5
  obtain ⟨o,e,c,d⟩:=id st'
  exact ⟨_,rfl,go_of (s:={ s with heap:=h',toks:=s.toks+1 }) e c d (by decide) ⟨.str ⟨#[x.cps[i]]⟩,H,I1,⟨_,rfl⟩,⟨rfl,_,by simp [hi],rfl⟩,st',fun b hb=>(hf b hb).1⟩⟩
 done:=by
  intro X hP hw hK hc i pins s σ H E I hf st hg
  subst hP hw hK
  obtain ⟨f0,f1,f2,f3,f4,f5⟩:=hf it (by simp)
  have hi:x.cps.size<=i:=hg
  exact wpAny_pyNext_ascii_end (I.ok.hd hc) st (by simp;omega) fun h' eb=>⟨rfl,I.turned (t':=s.toks) (fun b o hb e=>eb b o hb e) f0 f1 f3 f4 f5⟩
 self:=fun _ _ _ _ _ st h=>wpAny_pyIter_striter_ascii st h
def iStr (tl:TE):TI:=fun σ H R=>tl σ H fun v H1=>∃x,v=.str x/\x.cps.all (·<128)=true/\R (Its x) H1
theorem pi_str {tg l:Expr} {tl:TE} (hl:PE X l tl):PI X tg l (iStr tl):=by
 intro pins s σ H R I h
 refine thn (hl pins s σ H _ I h) fun v s1 ⟨x0,H1,I1,r1,q1⟩=>?_
 obtain ⟨x,rfl,ha,q⟩:=q1
 obtain ⟨t,rfl⟩:=r1
 refine wpAny_pyIter_ascii ha ?_
 refine ⟨s1.heap.objs.size,[s1.heap.objs.size],_,_,H1,rfl,I1.kept (t':=s1.toks) fun b o e=>Heap.get?_push_of_some _ e,turn_str _ x t,⟨_,Heap.get?_push_size _ rfl,rfl,rfl⟩,fun b hb=>?_,q⟩
 have e:b=s1.heap.objs.size:=by simpa using hb
 subst e
 exact I1.fpOk (Nat.le_refl _) (I1.hok.fresh (Nat.le_refl _))
end
end L2
namespace L2
open PySem PySem.Spec PyProof.Rows
section
variable {P:Program} {w:World} {H:Hp} {h:Heap} {a:Addr} {o:HO}
theorem ObjOk.ex (x:ObjOk P w H h a o):∃ob,h.get? a=some ob:=by
 induction o with
 | lst xs=>obtain ⟨_,_,_,_,e⟩:=x;exact ⟨_,e⟩
 | tup xs=>obtain ⟨_,_,_,o,e,_⟩:=x;exact ⟨_,e⟩
 | dK kvs=>obtain ⟨_,_,_,_,o,_,_,e,_⟩:=x;exact ⟨_,e⟩
 | dT kvs=>obtain ⟨_,_,_,_,o,_,_,e,_⟩:=x;exact ⟨_,e⟩
 | set S n=>obtain ⟨o,_,_,_,e,_⟩:=x;exact ⟨_,e⟩
 | ins C dx fs=>obtain ⟨_,_,_,e,_⟩:=x;exact ⟨_,e⟩
 | own y=>exact x
 | xd fs=>obtain ⟨_,⟨_,_,_,e,_⟩,_⟩:=x;exact ⟨_,e⟩
 | rng lo hi=>obtain ⟨_,_,_,e⟩:=x;exact ⟨_,e⟩
 | frz ob u ih=>exact ⟨_,x.1⟩
 | tbl ps=>exact ⟨_,x⟩
 | met f y=>exact ⟨_,x⟩
 | ext φ=>exact x.2.1
end
def Trc (h₀:Heap) (H':Hp) (a C:Addr) (h:Heap):Prop:=
 H' a=none/\h₀.get? a=none/\∃oe vs T oT ts,h.get? a=some oe/\oe.cls=.ref C/\oe.data=.fields vs/\vs[1]? = some (.ref T)/\T≠a/\h₀.get? T=none/\H' T=none/\h.get? T=some oT/\oT.data=.fields ts/\ts[3]? = some .none
section
variable {M:Model} {A:Around} {E:Value->Shared->Prop} {s:Shared} {base:Heap} {env:Env} {outer:List Env} {L e T:Addr} {oe oT:Obj} {vs ts:Array Value} {Q:Unit->Shared->Prop}
structure Note (fs ex:List Addr) (h h':Heap):Prop where
 keep:∀b o,h.get? b=some o->b ∉ ex->b ∉ fs->h'.get? b=some o
 slot:∀b o,h.get? b=some o->b∈fs->∃sl,h'.get? b=some { o with slots:=sl }
theorem in_frs {l:List Env}:∀env∈l,∀b,env.frame=some b->b∈frs l:=fun env he b hb=>List.mem_filterMap.mpr ⟨env,he,hb⟩
theorem leave_next (hfr:A.frames=some (env::outer)) (hl:s.heap.FunFrames base (env::outer)) (hf:env.frame=some L) (he:s.heap.get? e=some oe) (hd:oe.data=.fields vs) (h1:vs[1]? = some (.ref T)) (hTe:T≠e)
  (hT:s.heap.get? T=some oT) (hdT:oT.data=.fields ts) (h3:ts[3]? = some .none)
  (h:∀h',Note (frs (env::outer)) [e,T] s.heap h'->(∃oe' vs' T' oT' ts',h'.get? e=some oe'/\oe'.cls=oe.cls/\oe'.data=.fields vs'/\vs'[1]? = some (.ref T')/\T'≠e/\(s.heap.get? T'=none\/T'=T)/\h'.get? T'=some oT'/\oT'.data=.fields ts'/\ts'[3]? = some .none)->Q () { s with heap:=h' }) :
  wpAny M A (leaving env (.ref e)) Q E s:=by
 have m1:e∈e::T::frs (env::outer):=List.mem_cons_self
 have m2:T∈e::T::frs (env::outer):=List.mem_cons_of_mem _ List.mem_cons_self
 refine wpAny_leaving_next (base:=PySem.W.hideAll s.heap (e::T::frs (env::outer))) (cls:=oe.cls) hfr (PySem.W.funFrames_hide hl fun env he b hb=>List.mem_cons_of_mem _ (List.mem_cons_of_mem _ (in_frs env he b hb))) hf
  ⟨oe,vs,T,oT,ts,he,rfl,hd,h1,PySem.W.hideAll_none _ m2,hTe,hT,hdT,h3⟩ (fun b o q=>PySem.W.of_hideAll _ q) (PySem.W.hideAll_none _ m1) fun h' ⟨x1,x2,x3,x4⟩=>h h' ⟨fun b o q n1 n2=>?_,fun b o q hb=>?_⟩ ?_
 ·refine x1 b o (PySem.W.hideAll_get _ q fun z=>?_)
  rcases List.mem_cons.mp z with z|z
  ·exact n1 (by rw [z];exact List.mem_cons_self)
  rcases List.mem_cons.mp z with z|z
  ·exact n1 (by rw [z];exact List.mem_cons_of_mem _ List.mem_cons_self)
  exact n2 z
 ·obtain ⟨_,o',q',nf⟩:=hl.mem hb
  rw [q] at q';cases q'
  exact x4 b o q nf
 ·obtain ⟨oe',vs',T',oT',ts',a1,a2,a3,a4,a5,a6,a7,a8,a9⟩:=x3
  refine ⟨oe',vs',T',oT',ts',a1,a2,a3,a4,a6,?_,a7,a8,a9⟩
  by_cases z:T'=T
  ·exact .inr z
  ·refine .inl ?_
   cases q:s.heap.get? T' with
   | none=>rfl
   | some o=>
    have:=PySem.W.hideAll_get (e::T::frs (env::outer)) q fun y=>by
     rcases List.mem_cons.mp y with y|y
     ·exact a6 y
     rcases List.mem_cons.mp y with y|y
     ·exact z y
     obtain ⟨_,o',q',nf⟩:=x2.mem y
     rw [a7] at q';cases q'
     exact nf _ a8
    rw [a5] at this;cases this
theorem leave_first (hfr:A.frames=some (env::outer)) (hl:s.heap.FunFrames base (env::outer)) (hf:env.frame=some L) (he:s.heap.get? e=some oe) (hd:oe.data=.fields vs) (h1:vs[1]? = some .none)
  (h:∀h',Note (frs (env::outer)) [e] s.heap h'->(∃oe' vs' T' oT' ts',h'.get? e=some oe'/\oe'.cls=oe.cls/\oe'.data=.fields vs'/\vs'[1]? = some (.ref T')/\T'≠e/\s.heap.get? T'=none/\h'.get? T'=some oT'/\oT'.data=.fields ts'/\ts'[3]? = some .none)->Q () { s with heap:=h' }) :
  wpAny M A (leaving env (.ref e)) Q E s:=by
 have m1:e∈e::frs (env::outer):=List.mem_cons_self
 refine wpAny_leaving_first (base:=PySem.W.hideAll s.heap (e::frs (env::outer))) hfr (PySem.W.funFrames_hide hl fun env he b hb=>List.mem_cons_of_mem _ (in_frs env he b hb)) hf he
  (fun b o q=>PySem.W.of_hideAll _ q) (PySem.W.hideAll_none _ m1) hd h1 fun h' ⟨x1,x2,x3,x4⟩=>h h' ⟨fun b o q n1 n2=>?_,fun b o q hb=>?_⟩ ?_
 ·refine x1 b o (PySem.W.hideAll_get _ q fun z=>?_)
  rcases List.mem_cons.mp z with z|z
  ·exact n1 (by rw [z];exact List.mem_cons_self)
  exact n2 z
 ·obtain ⟨_,o',q',nf⟩:=hl.mem hb
  rw [q] at q';cases q'
  exact x4 b o q nf
 ·obtain ⟨oe',vs',T',oT',ts',a1,a2,a3,a4,a5,a6,a7,a8,a9⟩:=x3
  refine ⟨oe',vs',T',oT',ts',a1,a2,a3,a4,a6,?_,a7,a8,a9⟩
  cases q:s.heap.get? T' with
  | none=>rfl
  | some o=>
   have:=PySem.W.hideAll_get (e::frs (env::outer)) q fun y=>by
    rcases List.mem_cons.mp y with y|y
    ·exact a6 y
    obtain ⟨_,o',q',nf⟩:=x2.mem y
    rw [a7] at q';cases q'
    exact nf _ a8
   rw [a5] at this;cases this
end
def CXX (P:Program) (w:World):CXT:=fun outer H s E e s'=>∃a C H',e=.ref a/\s'.os=s.os/\AllBare s'.gens/\Un (frs outer) [] H H' s.heap s'.heap/\HOk P w H' s'.heap/\Trc s.heap H' a C s'.heap/\E (.ref C) none H'
section
variable {P:Program} {w:World} {K:PySem.W.Frag} {mg:Str->Option Value} {base:Heap} {N:List Str} {qual:Str} {scope:Scope} {f:Addr} {cd:Value} {A:Around} {outer:List Env} {s₀:Shared} {H₀:Hp} {E₀:XK}
theorem note_un {X:Cx} {pins:List (Addr × Obj)} {σ:St} {H':Hp} {s':Shared} {ex:List Addr} {h':Heap} (hs:X.stack=X.env::X.outer) (hL:X.env.frame=some X.env.locals) (hx:X.ex=[]) (I:Inv X pins σ H' s') (n:Note (frs X.stack) ex s'.heap h')
  (new:∀b∈ex,X.s₀.heap.get? b=none/\H' b=none):Un (frs X.outer) [] X.H₀ H' X.s₀.heap h'/\HOk X.prog X.w H' h':=by
 have ib:=I.base
 have nol:∀b o,X.s₀.heap.get? b=some o->b ∉ frs X.outer->b ∉ frs X.stack:=fun b o q n1 z=>by
  rcases List.mem_cons.mp (I.stkSub b z) with y|y
  ·have l1:=Heap.lt_size q
   have l2:=I.ok.above
   rw [<-y] at l2
   exact absurd (Nat.lt_of_lt_of_le l1 l2) (Nat.lt_irrefl _)
  ·exact n1 y
 have nex:∀b o,X.s₀.heap.get? b=some o->b ∉ ex:=fun b o q z=>by rw [(new b z).1] at q;cases q
 have noe:∀b:Addr,b ∉ X.ex:=fun b z=>by rw [hx] at z;cases z
 refine ⟨⟨fun b o q q0 n1 _=>n.keep b o (ib.keep b o q q0 n1 (noe b)) (nex b o q) (nol b o q n1),fun b o q q0 hb _=>?_,fun b o q q0 _=>ib.free b o q q0 (noe b),fun b o q _=>?_,ib.tups,ib.frzs,ib.tbls⟩,fun a o q=>?_⟩
 ·obtain ⟨sl,e1⟩:=ib.slot b o q q0 hb (noe b)
  have hb':b∈frs X.stack:=by
   rw [hs]
   show b∈List.filterMap _ (X.env::X.outer)
   rw [List.filterMap_cons,hL]
   exact List.mem_cons_of_mem _ hb
  obtain ⟨sl',e2⟩:=n.slot b _ e1 hb'
  exact ⟨sl',e2⟩
 ·obtain ⟨o1,e1⟩:=ib.there b o q (noe b)
  by_cases hb:b∈frs X.stack
  ·obtain ⟨sl,e2⟩:=n.slot b o1 e1 hb
   exact ⟨_,e2⟩
  ·exact ⟨o1,n.keep b o1 e1 (nex b o q) hb⟩
 ·refine (I.hok a o q).stay (fun b u hb e1=>?_) (fun _ z=>z) fun _ _ z=>z
  have ht:H' b≠none:=by
   rcases hb with rfl|hb
   ·rw [q];intro z;cases z
   ·rw [hb];intro z;cases z
  exact n.keep b u e1 (fun z=>ht (new b z).2) fun z=>ht (I.stkFree b z)
theorem pass_leave {pins:List (Addr × Obj)} {σ:St} {H H':Hp} {s s':Shared} {a C:Addr} (I:Inv (cxOf (CXX P w) P w K mg base N qual scope f cd A outer s₀ H₀ E₀) pins σ H s)
  (I':Inv (cxOf (CXX P w) P w K mg base N qual scope f cd A outer s₀ H₀ E₀) pins σ H' s') (t:Trc s.heap H' a C s'.heap) (q:E₀ (.ref C) none H'):(cxOf (CXX P w) P w K mg base N qual scope f cd A outer s₀ H₀ E₀).xe (.ref a) s':=by
 obtain ⟨t0,t1,oe,vs,T,oT,ts,a1,a2,a3,a4,a5,a6,a7,a8,a9,a10⟩:=t
 have old:∀b,s.heap.get? b=none->s₀.heap.get? b=none:=fun b z=>by
  cases y:s₀.heap.get? b with
  | none=>rfl
  | some o=>obtain ⟨_,e⟩:=I.base.there b o y (by intro z;cases z);rw [z] at e;cases e
 have old':∀b,s'.heap.get? b=none->s₀.heap.get? b=none:=fun b z=>by
  cases y:s₀.heap.get? b with
  | none=>rfl
  | some o=>obtain ⟨_,e⟩:=I'.base.there b o y (by intro z;cases z);rw [z] at e;cases e
 refine leave_next (base:=base) I'.ok.frames I'.stack rfl a1 a3 a4 a5 a8 a9 a10 fun h' n ⟨oe',vs',T',oT',ts',b1,b2,b3,b4,b5,b6,b7,b8,b9⟩=>?_
 obtain ⟨un,hok⟩:=note_un rfl rfl rfl I' n (fun b hb=>by
  rcases List.mem_cons.mp hb with rfl|hb
  ·exact ⟨old _ t1,t0⟩
  ·rw [List.mem_singleton.mp hb];exact ⟨old _ a6,a7⟩)
 refine ⟨a,C,H',rfl,I'.os,I'.bare,un,hok,⟨t0,old _ t1,oe',vs',T',oT',ts',b1,by rw [b2,a2],b3,b4,b5,?_,?_,b7,b8,b9⟩,q⟩
 ·rcases b6 with z|z
  ·exact old' _ z
  ·rw [z];exact old _ a6
 ·rcases b6 with z|z
  ·cases y:H' T' with
   | none=>rfl
   | some o=>obtain ⟨_,e⟩:=(I'.hok _ _ y).ex;rw [z] at e;cases e
  ·rw [z];exact a7
theorem raise_leave {pins:List (Addr × Obj)} {σ:St} {H:Hp} {s s':Shared} {a C t:Addr} {args:List Value} (I:Inv (cxOf (CXX P w) P w K mg base N qual scope f cd A outer s₀ H₀ E₀) pins σ H s)
  (m:Heap.MadeExcOf s.heap s'.heap a (.ref C) args) (hs:s'={ s with heap:=s'.heap }) (q:E₀ (.ref C) none H):(cxOf (CXX P w) P w K mg base N qual scope f cd A outer s₀ H₀ E₀).xe (.ref a) s':=by
 obtain ⟨t,a1,a2,a3⟩:=m.there
 have I':Inv (cxOf (CXX P w) P w K mg base N qual scope f cd A outer s₀ H₀ E₀) pins σ H s':=by rw [hs];exact I.kept (t':=s.toks) m.keeps
 have ht:H a=none:=by
  cases y:H a with
  | none=>rfl
  | some o=>obtain ⟨_,e⟩:=(I.hok _ _ y).ex;rw [m.new] at e;cases e
 have old:∀b,s.heap.get? b=none->s₀.heap.get? b=none:=fun b z=>by
  cases y:s₀.heap.get? b with
  | none=>rfl
  | some o=>obtain ⟨_,e⟩:=I.base.there b o y (by intro z;cases z);rw [z] at e;cases e
 have old':∀b,s'.heap.get? b=none->s₀.heap.get? b=none:=fun b z=>by
  cases y:s₀.heap.get? b with
  | none=>rfl
  | some o=>obtain ⟨_,e⟩:=I'.base.there b o y (by intro z;cases z);rw [z] at e;cases e
 refine leave_first (base:=base) I'.ok.frames I'.stack rfl a1 rfl rfl fun h' n ⟨oe',vs',T',oT',ts',b1,b2,b3,b4,b5,b6,b7,b8,b9⟩=>?_
 obtain ⟨un,hok⟩:=note_un rfl rfl rfl I' n (fun b hb=>by rw [List.mem_singleton.mp hb];exact ⟨old _ m.new,ht⟩)
 refine ⟨a,C,H,rfl,I'.os,I'.bare,un,hok,⟨ht,old _ m.new,oe',vs',T',oT',ts',b1,b2,b3,b4,b5,old' _ b6,?_,b7,b8,b9⟩,q⟩
 cases y:H T' with
 | none=>rfl
 | some o=>obtain ⟨_,e⟩:=(I'.hok _ _ y).ex;rw [b6] at e;cases e
end
abbrev vbm:List Value:=[.type "ValueError",.type "Exception",.type "BaseException",.type "object"]
structure XCl (K:PySem.W.Frag) (mg:Str->Option Value) (x:Str) (C:Addr):Prop where
 m:mg x=some (.ref C)
 ok:PySem.W.excIn K C vbm "ValueError.__new__"=true
theorem XCl.own {K:PySem.W.Frag} {mg:Str->Option Value} {x:Str} {C:Addr} {h:Heap} (c:XCl K mg x C) (I:K.In h):OwnCls x C vbm "ValueError.__new__" mg h:=by
 have q:=c.ok
 refine ⟨c.m,?_⟩
 unfold PySem.W.excIn at q
 cases ho:K.lookup C with
 | none=>rw [ho] at q;cases q
 | some o=>
  rw [ho] at q
  obtain ⟨oc,dd,od,sl⟩:=o
  split at q
  ·rename_i dd' cd sl' eo
   cases eo
   obtain ⟨l⟩:=sl
   split at q
   ·rename_i C' bm k0 k1 k2 k3 n k5 em es
    obtain ⟨nm,bs,mro,ns,qn,hd,sn,sb,ab,col,del⟩:=cd
    simp only [Bool.and_eq_true,beq_iff_eq,Bool.not_eq_true'] at q em es
    obtain ⟨⟨⟨⟨⟨e1,e2⟩,e3⟩,e4⟩,e5⟩,e6⟩:=q
    subst em e1 e2 e3 es
    exact ⟨bm,ns,nm,qn,bs,hd,sn,sb,ab,col,dd,k0,k1,k2,k3,k5,_,I _ _ ho,.of_isNs (PySem.W.isNs_of_in I e5),PySem.W.nsMap_none_of_in I e5 e6,PySem.W.tail_of_in I e4⟩
   ·cases q
  ·cases q
section
variable {X:Cx} {CX:CXT} {k:Nat} {f:Addr} {fd:FuncData} {ps:List Str} {sp:Sp} {E:XK} {x:Str} {st:Stmt} {p pos np cpos:Pos} {e:Expr} {es:List Expr} {t:TA} {C:Addr} {G:Addr->St->Hp->Prop}
theorem run_fnX {pins:List (Addr × Obj)} {σ:St} {H:Hp} {s:Shared} {Q:VK} {us:List Value} {vs:List V} (F:FnOk X.prog X.w X.K X.mg X.base CX k f fd ps sp) (hr:Room k X.A) (hb:Binds X.K fd ps []) (I:Inv X pins σ H s) (r:Vals vs us) (h:sp vs H Q E)
  (hx:∀e s',CX X.stack H s E e s'->X.xe e s'):wpAny (model X.prog X.w) X.A (call (.ref f) us) (EP X pins σ Q) X.xe s:=by
 have hl:us.length=ps.length:=by rw [<-r.length];exact F.len _ _ _ _ h
 have hb':=hb s us I.kIn (by rw [List.append_nil];exact hl)
 rw [List.append_nil] at hb'
 refine wpAny_call (codeAny_mono (F.run X.A X.stack s H ⟨us,[]⟩ us vs Q E hr I.env0 hb' r h) fun r s' hq=>?_)
 match r,hq with
 | .error e,hq=>exact hx e s' hq
 | .ok (.ret u),hq=>exact I.after hq
def LnkG (X:Cx) (G:Addr->St->Hp->Prop):Prop:=∀(pins:List (Addr × Obj)) (σ:St) (H:Hp) (s:Shared) (H':Hp) (s':Shared) (a C:Addr),Inv X pins σ H s->Inv X pins σ H' s'->Trc s.heap H' a C s'.heap->G C σ H'->X.xe (.ref a) s'
def LnkR (X:Cx) (G:Addr->St->Hp->Prop):Prop:=∀(pins:List (Addr × Obj)) (σ:St) (H:Hp) (s s':Shared) (a C:Addr) (args:List Value),Inv X pins σ H s->Heap.MadeExcOf s.heap s'.heap a (.ref C) args->s'={ s with heap:=s'.heap }->G C σ H->X.xe (.ref a) s'
def tCallX (sp:Sp) (G:Addr->St->Hp->Prop) (t:TA):TE:=fun σ H Q=>t σ H fun vs H1=>sp vs H1 Q fun cl _ H'=>∃C,cl=.ref C/\G C σ H'
theorem pe_callX (D:DefAt X.K X.mg x st ps) (F:FnOk X.prog X.w X.K X.mg X.base (CXX X.prog X.w) k D.f D.fd ps sp) (hr:Room k X.A) (lk:LnkG X G) (ha:PA X (e::es) t)
  (hg:Gl X x:=by rfl) (hdb:(x == ("__debug__":Str))=false:=by decide) (he:starEach (e::es) X.env=(false,eval e X.env)::starEach es X.env:=by rfl) (hpl:(backTo pos (starEach es X.env)).any (·.1)=false:=by rfl) :
  PE X (.Call (.Name x p) (e::es) [] pos) (tCallX sp G t):=by
 intro pins s σ H Q I h
 refine wpAny_Call_Name_kw (ld_glob I hg D.m ?_ hdb)
 refine PySem.W.callWith_K (h₀:=X.base) I.ok.mod.kin D.F.kp (thn (ha pos pins s σ H _ I h) fun us s1 ⟨vs,H1,I1,r,q⟩=>⟨I1.kIn,?_⟩) he hpl
 refine run_fnX F hr D.b I1 r q fun e s' ⟨a,C,H',e1,e2,e3,un,hok,tr,C',e4,g⟩=>?_
 subst e1
 cases e4
 exact lk pins σ H1 s1 H' s' a C I1 (I1.call' e2 un hok e3 (fun b z=>absurd z (by simp))) tr g
def tRaise (G:Addr->St->Hp->Prop) (C:Addr) (t:TA):TS:=fun _ σ H=>t σ H fun vs H1=>vs.length<=sizeLine/\G C σ H1
theorem ps_raise (c:XCl X.K X.mg x C) (hc:X.calm=true) (lk:LnkR X G) (ha:PA X (e::es) t)
  (hg:Gl X x:=by rfl) (hdb:(x == ("__debug__":Str))=false:=by decide) (he:starEach (e::es) X.env=(false,eval e X.env)::starEach es X.env:=by rfl) (hpl:(backTo cpos (starEach es X.env)).any (·.1)=false:=by rfl) :
  PS X (.Raise (some (.Call (.Name x np) (e::es) [] cpos)) none pos) (tRaise G C t):=by
 intro pins s σ H D I h
 have O:=c.own I.mod.kin
 obtain ⟨m0,n0,nm0,q0,b0,d0,s0,u0,a0,c0,dd0,j0,j1,j2,j3,j5,f0,hC,hN,hni,T⟩:=O.obj
 refine wpAny_Raise_call_subT (bm:=m0) (nm:=nm0) (q:=q0) (N:=n0) (bs:=b0) (hdct:=d0) (sn:=s0) (sub:=u0) (ab:=a0) (col:=c0) (dd:=dd0) (k0:=j0) (k1:=j1) (k2:=j2) (k3:=j3) (k5:=j5) (C:=C) F.excBase_ValueError (mN:=f0)
  (T.hasType F.excBase_ValueError.hasBase) (I.ok.hd hc) (by rw [he];show (false || (backTo cpos (starEach es X.env)).any (·.1))=false;rw [hpl];rfl) hni (ld_glob I hg c.m ⟨rfl,?_⟩ hdb)
 have hw:=ha cpos pins s σ H _ I h
 rw [he] at hw ⊢
 exact Calls.evalArgs_plain (wpAny_mono hw (fun us s2 ⟨vs,H2,I2,r,hl,g⟩=>⟨rfl,by rw [<-r.length];exact hl,I2.bk _ _ hC,hN.keeps I2.bk,T.keeps I2.bk,fun h' a m=>lk pins σ H2 s2 _ a C us I2 m rfl g⟩) fun _ _ y=>y)
end
def IsExc (a C:Addr):Heap->Prop:=fun h=>∃o,h.get? a=some o/\o.cls=.ref C/\∃vs,o.data=.fields vs
abbrev XO (a C:Addr):HO:=.ext (IsExc a C)
section
variable {X:Cx} {pins:List (Addr × Obj)} {σ σ':St} {H:Hp} {s:Shared} {h':Heap} {a C:Addr}
theorem cell_slots {c:Addr} {v:Option Value} {h:Heap} {o:Obj} {sl:Array (Option Value)} (z:h.IsCell c v) (e:h.get? c=some o) (e':h'.get? c=some { o with slots:=sl }):h'.IsCell c v:=by
 obtain ⟨o1,h1,h2⟩:=z
 rw [e] at h1;cases h1
 exact ⟨_,e',h2⟩
theorem inv_note {ex:List Addr} {t':Nat} (hs:X.stack=X.env::X.outer) (hL:X.env.frame=some X.env.locals) (hx:X.ex=[]) (I:Inv X pins σ H s) (n:Note (frs X.stack) ex s.heap h')
  (new:∀b∈ex,X.s₀.heap.get? b=none/\H b=none/\b≠X.env.locals/\(∀x c,X.env.cells.lookup x=some c->c≠b)/\∀p∈X.pn++pins,p.1≠b):Inv X pins σ H { s with heap:=h',toks:=t' }:=by
 obtain ⟨un,hok⟩:=note_un hs hL hx I n fun b hb=>⟨(new b hb).1,(new b hb).2.1⟩
 have un':Un X.fs X.ex X.H₀ H X.s₀.heap h':=by rw [hx];exact un
 have up:∀b o,s.heap.get? b=some o->b ∉ ex->∃sl,h'.get? b=some { o with slots:=sl }:=fun b o q nb=>by
  by_cases hb:b∈frs X.stack
  ·exact n.slot b o q hb
  ·exact ⟨o.slots,n.keep b o q nb hb⟩
 obtain ⟨m,hn,hl⟩:=I.loc
 have hn':h'.Ns X.env.locals m:=by
  obtain ⟨o,es,ep,ho,hd,r⟩:=hn
  obtain ⟨sl,e⟩:=up _ o ho fun z=>(new _ z).2.2.1 rfl
  exact ⟨_,es,ep,e,hd,r⟩
 have cl:∀x c v,X.env.cells.lookup x=some c->s.heap.IsCell c v->h'.IsCell c v:=fun x c v e z=>by
  obtain ⟨o,h1,h2⟩:=id z
  obtain ⟨sl,e2⟩:=up c o h1 fun y=>(new _ y).2.2.2.1 x c e rfl
  exact cell_slots z h1 e2
 refine ⟨I.ok,I.os,I.bare,un',⟨m,hn',fun i x v e1 e2 e3=>?_⟩,fun x c e=>?_,I.free,I.freeC,fun p hp=>?_,hok,I.len⟩
 ·obtain ⟨u,r,q⟩:=hl i x v e1 e2 e3
  refine ⟨u,r,?_⟩
  rcases q with q|⟨k,c,e,z⟩
  ·exact .inl q
  ·exact .inr ⟨k,c,e,cl x c _ e z⟩
 ·obtain ⟨v,z⟩:=I.cell x c e
  exact ⟨v,cl x c v e z⟩
 ·obtain ⟨e,nn,ne,nf,d⟩:=I.pin p hp
  refine ⟨n.keep _ _ e (fun z=>(new _ z).2.2.2.2 p hp rfl) fun z=>?_,nn,ne,nf,d⟩
  rcases List.mem_cons.mp (I.stkSub _ z) with y|y
  ·exact ne y
  ·exact nf y
theorem inv_track (I:Inv X pins σ H s) (hx:X.ex=[]) (ha:H a=none) (h0:X.s₀.heap.get? a=none) (he:IsExc a C s.heap) (hc:∀x c,X.env.cells.lookup x=some c->c≠a) (hp:∀p∈X.pn++pins,p.1≠a):Inv X pins σ (upd H a (XO a C)) s:=by
 have ne:∀b o,H b=some o->b≠a:=fun b o q z=>by rw [z,ha] at q;cases q
 have hla:X.env.locals≠a:=fun z=>by
  obtain ⟨m,⟨o,es,ep,ho,hd,_⟩,_⟩:=I.loc
  obtain ⟨o1,h1,_,vs,h3⟩:=he
  rw [z,h1] at ho;cases ho
  rw [h3] at hd;cases hd
 refine ⟨I.ok,I.os,I.bare,⟨I.base.keep,I.base.slot,fun b o q q0 nx=>?_,I.base.there,fun b xs q=>?_,fun b o u q=>?_,fun b ps q=>?_⟩,I.loc,I.cell,?_,fun x c e=>?_,fun p hq=>?_,fun b o q=>?_,I.len⟩
 ·rw [upd_ne (fun z=>by rw [z,h0] at q;cases q)];exact I.base.free b o q q0 nx
 ·have e:=I.base.tups b xs q;rw [upd_ne (ne _ _ e)];exact e
 ·have e:=I.base.frzs b o u q;rw [upd_ne (ne _ _ e)];exact e
 ·obtain ⟨more,e⟩:=I.base.tbls b ps q;exact ⟨more,by rw [upd_ne (ne _ _ e)];exact e⟩
 ·rw [upd_ne hla];exact I.free
 ·rw [upd_ne (hc x c e)];exact I.freeC x c e
 ·obtain ⟨e,nn,r⟩:=I.pin p hq
  exact ⟨e,by rw [upd_ne (hp p hq)];exact nn,r⟩
 ·by_cases z:b=a
  ·subst z
   rw [upd_same] at q;cases q
   obtain ⟨o1,h1,h2⟩:=id he
   exact ⟨he,⟨o1,h1⟩,fun h1 h2 ⟨o,k1,k2⟩ k=>⟨o,k o k1,k2⟩⟩
  ·rw [upd_ne z] at q
   refine (I.hok b o q).stay (fun _ _ _ e=>e) (fun b' e=>?_) fun b' xs e=>?_
   ·rw [upd_ne (ne _ _ e)];exact e
   ·rw [upd_ne (ne _ _ e)];exact e
theorem inv_same {m':Str->Option Value} {t':Nat} (I:Inv X pins σ H s) (hn:h'.Ns X.env.locals m') (hs:Heap.SameBut X.env.locals s.heap h') (hl:σ'.length=σ.length)
  (h:∀(i:Nat) (x:Str) (v:V),X.N[i]? = some x->σ'[i]? = some (some v)->Vis X.env.scope x->∃u,RelV v u/\Look X.env h' m' x u):Inv X pins σ' H { s with heap:=h',toks:=t' }:=by
 have big:∀b o,X.s₀.heap.get? b=some o->b≠X.env.locals:=fun b o e=>Nat.ne_of_lt (Nat.lt_of_lt_of_le (Heap.lt_size e) I.ok.above)
 refine ⟨I.ok,I.os,I.bare,⟨fun b o e n hb hx=>(hs.2 b (big b o e)).trans (I.base.keep b o e n hb hx),fun b o e n hb hx=>?_,I.base.free,fun b o e hx=>?_,I.base.tups,I.base.frzs,I.base.tbls⟩,⟨m',hn,h⟩,fun x c e=>?_,I.free,I.freeC,fun p hp=>?_,fun b o q=>?_,by rw [hl];exact I.len⟩
 ·obtain ⟨sl,e1⟩:=I.base.slot b o e n hb hx
  exact ⟨sl,(hs.2 b (big b o e)).trans e1⟩
 ·obtain ⟨o',e1⟩:=I.base.there b o e hx
  exact ⟨o',(hs.2 b (big b o e)).trans e1⟩
 ·obtain ⟨w',z⟩:=I.cell x c e
  exact ⟨w',z.sameBut hs (I.cne x c e)⟩
 ·obtain ⟨e,n,ne,r⟩:=I.pin p hp
  exact ⟨(hs.2 p.1 ne).trans e,n,ne,r⟩
 ·refine (I.hok b o q).stay (fun c u hc e=>(hs.2 c fun z=>?_).trans e) (fun _ e=>e) fun _ _ e=>e
  rcases hc with y|y
  ·rw [<-y,z,I.free] at q;cases q
  ·rw [z,I.free] at y;cases y
theorem goes_ok {M : Model} {A : Around} {E : Value → Shared → Prop} {i : Nat} {x : Str} {pos : Pos} {Q : Unit → Shared → Prop} (I : Inv X pins σ H s) (hN : X.N.Nodup) (hi : X.N[i]? = some x) (hx : X.env.scope.names.lookup x = some .local)
    (h : ∀ s', Inv X pins (σ.set i none) H s' → Q () s') : wpAny M A (do bindName X.env x .none; unbindBehindTheSuite X.env x pos) Q E s := by
  have hiσ : i < σ.length := by rw [I.len]; exact (List.getElem?_eq_some_iff.mp hi).1
  have hp : (X.env.scope.kind == .class || (X.env.scope.kind == .module && X.env.locals != X.env.globals)) = false := by rw [I.ok.kind]; rfl
  have hk : X.env.kindOf x = some .local := hx
  refine wpAny_bind (wpAny_bindName (store_ok2 (i := i) (v := .non) I hN hi (.inl hx) rfl (fun s1 I1 _ => ?_) (.inr hx)))
  obtain ⟨m, hn, hl⟩ := I1.loc
  have some_ : (m x).isSome = true := by
    obtain ⟨u, _, q⟩ := hl i x .non hi (List.getElem?_set_self hiσ) (.inl hx)
    rcases q with ⟨_, e⟩ | ⟨k, _⟩
    · rw [e]; rfl
    · rw [hk] at k; rcases k with k | k <;> cases k
  unfold unbindBehindTheSuite
  refine wpAny_onRaise ?_
  unfold unbindName
  refine wpAny_bind (wpAny_point (wpAny_bind ?_))
  unfold deleteName
  simp only [hk, hp]
  rw [if_neg (by decide)]
  refine wpAny_bind (wpAny_nsDel_keeps hn fun h2 v hn2 hs2 => ?_)
  rw [some_]
  simp only [Bool.not_true, Bool.false_eq_true, if_false]
  refine wpAny_pure (wpAny_point (h _ ?_))
  refine inv_same (t' := s1.toks) (σ := σ.set i (some .non)) I1 hn2 hs2 (by simp) fun j y w e1 e2 e3 => ?_
  by_cases hj : j = i
  · subst hj
    rw [List.getElem?_set_self hiσ] at e2; cases e2
  · rw [List.getElem?_set_ne (Ne.symm hj)] at e2
    obtain ⟨u, r, q⟩ := hl j y w e1 (by rw [List.getElem?_set_ne (Ne.symm hj)]; exact e2) e3
    refine ⟨u, r, ?_⟩
    rcases q with ⟨k, e⟩ | ⟨k, c, e, z⟩
    · have : y ≠ x := fun e => hj (nodup_ix hN e1 (e ▸ hi))
      exact .inl ⟨k, by simp [this, e]⟩
    · exact .inr ⟨k, c, e, z.sameBut hs2 (I1.cne y c e)⟩
end
section
variable {M:Model} {A:Around} {E:Value->Shared->Prop} {s:Shared} {base:Heap} {env:Env} {outer:List Env} {L e T:Addr} {oe oT:Obj} {vs ts:Array Value} {Q:Unit->Shared->Prop}
theorem note_next (hfr:A.frames=some (env::outer)) (hl:s.heap.FunFrames base (env::outer)) (hf:env.frame=some L) (he:s.heap.get? e=some oe) (hd:oe.data=.fields vs) (h1:vs[1]? = some (.ref T)) (hTe:T≠e)
  (hT:s.heap.get? T=some oT) (hdT:oT.data=.fields ts) (h3:ts[3]? = some .none)
  (h:∀h',Note (frs (env::outer)) [e,T] s.heap h'->(∃oe' vs' T' oT' ts' fl,h'.get? e=some oe'/\oe'.cls=oe.cls/\oe'.data=.fields vs'/\vs'[1]? = some (.ref T')/\T'≠e/\(s.heap.get? T'=none\/T'=T)/\h'.get? T'=some oT'/\oT'.data=.fields ts'/\ts'[3]? = some fl)->Q () { s with heap:=h' }) :
  wpAny M A (noteFrame (.ref e) env) Q E s:=by
 have m1:e∈e::T::frs (env::outer):=List.mem_cons_self
 have m2:T∈e::T::frs (env::outer):=List.mem_cons_of_mem _ List.mem_cons_self
 have h0:∃a0,vs[0]? = some a0:=⟨_,Array.getElem?_eq_getElem (Nat.lt_trans (by decide) (Array.getElem?_eq_some_iff.mp h1).1)⟩
 obtain ⟨a0,h0⟩:=h0
 refine wpAny_noteFrame_onW (base:=PySem.W.hideAll s.heap (e::T::frs (env::outer))) (cls:=oe.cls) (a0:=a0) hfr (PySem.W.funFrames_hide hl fun env he b hb=>List.mem_cons_of_mem _ (List.mem_cons_of_mem _ (in_frs env he b hb))) hf
  ⟨oe,vs,T,oT,ts,he,⟨rfl,h0⟩,hd,h1,PySem.W.hideAll_none _ m2,hTe,hT,hdT,h3⟩ (fun b o q=>PySem.W.of_hideAll _ q) (PySem.W.hideAll_none _ m1) fun h' ⟨x1,x2,x3,x4⟩=>h h' ⟨fun b o q n1 n2=>?_,fun b o q hb=>?_⟩ ?_
 ·refine x1 b o (PySem.W.hideAll_get _ q fun z=>?_)
  rcases List.mem_cons.mp z with z|z
  ·exact n1 (by rw [z];exact List.mem_cons_self)
  rcases List.mem_cons.mp z with z|z
  ·exact n1 (by rw [z];exact List.mem_cons_of_mem _ List.mem_cons_self)
  exact n2 z
 ·obtain ⟨_,o',q',nf⟩:=hl.mem hb
  rw [q] at q';cases q'
  exact x4 b o q nf
 ·obtain ⟨oe',vs',T',oT',ts',a1,a2,a3,a4,a5,a6,a7,a8,a9⟩:=x3
  refine ⟨oe',vs',T',oT',ts',_,a1,a2.1,a3,a4,a6,?_,a7,a8,a9⟩
  by_cases z:T'=T
  ·exact .inr z
  ·refine .inl ?_
   cases q:s.heap.get? T' with
   | none=>rfl
   | some o=>
    have:=PySem.W.hideAll_get (e::T::frs (env::outer)) q fun y=>by
     rcases List.mem_cons.mp y with y|y
     ·exact a6 y
     rcases List.mem_cons.mp y with y|y
     ·exact z y
     obtain ⟨_,o',q',nf⟩:=x2.mem y
     rw [a7] at q';cases q'
     exact nf _ a8
    rw [a5] at this;cases this
theorem flight_none {fl:Value} (he:s.heap.get? e=some oe) (hd:oe.data=.fields vs) (h1:vs[1]? = some (.ref T)) (hT:s.heap.get? T=some oT) (hdT:oT.data=.fields ts) (h3:ts[3]? = some fl)
  (h:∀h',(∀b o,s.heap.get? b=some o->b≠T->h'.get? b=some o)->(∃oT' ts',h'.get? T=some oT'/\oT'.data=.fields ts'/\ts'[3]? = some .none)->Q () { s with heap:=h' }):wpAny M A (setFlight (.ref e) none) Q E s:=by
 have hsz:3<ts.size:=(Array.getElem?_eq_some_iff.mp h3).1
 refine wpAny_setFlight_none he hd h1 hT hdT hsz (h _ (fun b o q nb=>?_) ⟨_,_,Heap.get?_update_self _ hT (Obj.isFreed_of_fields (Obj.data_mapFields hdT _)),Obj.data_mapFields hdT _,by simp [hsz]⟩)
 rw [Heap.get?_update_other _ _ (Ne.symm nb)];exact q
theorem note_one {fs:List Addr} {h h':Heap} (k:∀b o,h.get? b=some o->b≠T->h'.get? b=some o) (nf:T ∉ fs):Note fs [T] h h':=
 ⟨fun b o q n _=>k b o q fun z=>n (by rw [z];exact List.mem_cons_self),fun b o q hb=>⟨o.slots,k b o q fun z=>nf (z▸hb)⟩⟩
end
section
variable {X:Cx}
theorem excMatches_own {M:Model} {A:Around} {E:Value->Shared->Prop} {K:PySem.W.Frag} {mg:Str->Option Value} {x:Str} {C D e:Addr} {oe:Obj} {h:Heap} {g:Array GenState} {d:Drawn} {t:Nat} {os:OsState} {Q:Bool->Shared->Prop} (I:K.In h)
  (c:XCl K mg x D) (sub:PySem.W.subIn K (.ref C) (.ref D)=some true) (he:h.get? e=some oe) (hcls:oe.cls=.ref C) (hq:Q true ⟨h,g,d,t,os⟩):wpAny M A (excMatches (.ref e) (.ref D)) Q E ⟨h,g,d,t,os⟩:=by
 obtain ⟨m0,n0,nm0,q0,b0,d0,s0,u0,a0,c0,dd0,j0,j1,j2,j3,j5,f0,hD,hN,hni,T⟩:=(c.own I).obj
 have hB:(Value.ref D::m0).contains (.type "BaseException")=true:=by rw [List.contains_cons,T.hasType F.excBase_ValueError.hasBase,Bool.or_true]
 have ft:=tc_notTuple
 have lk:=PySem.W.looks_subIn (M:=M) I sub
 unfold excMatches
 repeat (first|(with_reducible refine wpAny_loadPart_at he ?_;rw [hcls])|with_reducible refine wpAny_loadPart_at hD ?_|(with_reducible refine wpAny_isSubtype_exc hD ?_;rw [hB])|wp_step)
 refine lk A _ E ⟨h,g,d,t,os⟩ (fun _ _ z=>z) ?_
 wp_walk
 exact hq
abbrev Cx.held (X:Cx) (pins:List (Addr × Obj)) (E:Value->Shared->Prop):Cx:={ X with pn:=X.pn++pins,xe:=E }
abbrev Cx.suite (X:Cx) (pins:List (Addr × Obj)) (A:Around):Cx:={ X with pn:=X.pn++pins,xe:=fun _ _=>False,A:=A,calm:=false }
variable {pins:List (Addr × Obj)} {σ:St} {H:Hp} {s:Shared} {E:Value->Shared->Prop} {A:Around}
theorem Inv.held (I:Inv X pins σ H s):Inv (X.held pins E) [] σ H s:=
 ⟨⟨I.ok.mod,I.ok.kind,I.ok.glob,I.ok.blt,I.ok.above,I.ok.inj,I.ok.has,I.ok.cab,I.ok.hd,I.ok.frames,I.ok.stk,I.ok.exf,I.ok.bs,I.ok.bsz,I.ok.noex,I.ok.exfs,I.ok.funs,I.ok.frf⟩,I.os,I.bare,I.base,I.loc,I.cell,I.free,I.freeC,fun p hp=>I.pin p (by rw [List.append_nil] at hp;exact hp),I.hok,I.len⟩
theorem Inv.unheld (I:Inv (X.held pins E) [] σ H s):Inv X pins σ H s:=
 ⟨⟨I.ok.mod,I.ok.kind,I.ok.glob,I.ok.blt,I.ok.above,I.ok.inj,I.ok.has,I.ok.cab,I.ok.hd,I.ok.frames,I.ok.stk,I.ok.exf,I.ok.bs,I.ok.bsz,I.ok.noex,I.ok.exfs,I.ok.funs,I.ok.frf⟩,I.os,I.bare,I.base,I.loc,I.cell,I.free,I.freeC,fun p hp=>I.pin p (by rw [List.append_nil];exact hp),I.hok,I.len⟩
theorem Inv.less {pins':List (Addr × Obj)} (I:Inv X pins' σ H s):Inv X [] σ H s:=
 ⟨I.ok,I.os,I.bare,I.base,I.loc,I.cell,I.free,I.freeC,fun p hp=>I.pin p (by rw [List.append_nil] at hp;exact List.mem_append_left _ hp),I.hok,I.len⟩
theorem Inv.suite (I:Inv X pins σ H s) (hA:A.frames=X.A.frames):Inv (X.suite pins A) [] σ H s:=
 ⟨⟨I.ok.mod,I.ok.kind,I.ok.glob,I.ok.blt,I.ok.above,I.ok.inj,I.ok.has,I.ok.cab,(fun z=>by cases z),hA.trans I.ok.frames,I.ok.stk,I.ok.exf,I.ok.bs,I.ok.bsz,I.ok.noex,I.ok.exfs,I.ok.funs,I.ok.frf⟩,I.os,I.bare,I.base,I.loc,I.cell,I.free,I.freeC,fun p hp=>I.pin p (by rw [List.append_nil] at hp;exact hp),I.hok,I.len⟩
theorem Inv.unsuite (I:Inv (X.suite pins A) [] σ H s) (hd:X.calm=true->X.A.handled=none) (hf:X.A.frames=some X.stack):Inv X pins σ H s:=
 ⟨⟨I.ok.mod,I.ok.kind,I.ok.glob,I.ok.blt,I.ok.above,I.ok.inj,I.ok.has,I.ok.cab,hd,hf,I.ok.stk,I.ok.exf,I.ok.bs,I.ok.bsz,I.ok.noex,I.ok.exfs,I.ok.funs,I.ok.frf⟩,I.os,I.bare,I.base,I.loc,I.cell,I.free,I.freeC,fun p hp=>I.pin p (by rw [List.append_nil];exact hp),I.hok,I.len⟩
def Ends.goes (D:Ends) (i:Nat):Ends:=⟨fun σ H=>D.nx (σ.set i none) H,D.rt,fun σ H=>D.bk (σ.set i none) H,fun σ H=>D.ct (σ.set i none) H⟩
theorem try_ok {body suite:List Stmt} {b₀:Stmt} {x n:Str} {C:Addr} {i:Nat} {np hpos pos:Pos} {D:Ends} {G:Addr->St->Hp->Prop} (c:XCl X.K X.mg x C) (hN:X.N.Nodup) (hi:X.N[i]? = some n) (hn:X.env.scope.names.lookup n=some .local)
  (hs:X.stack=X.env::X.outer) (hL:X.env.frame=some X.env.locals) (hx:X.ex=[]) (I:Inv X pins σ H s)
  (hb:∀E:Value->Shared->Prop,LnkG (X.held pins E) G->∃tb,PSs (X.held pins E) body tb/\tb D σ H)
  (hG:∀(Ca:Addr) (σ':St) (H':Hp),G Ca σ' H'->PySem.W.subIn X.K (.ref Ca) (.ref C)=some true/\∀a,H' a=none->∃th,PSs (X.suite pins (X.A.mark (some (.ref a)))) (b₀::suite) th/\th (D.goes i) (σ'.set i (some (.ref a))) (upd H' a (XO a Ca)))
  (hg:Gl X x) (hdb:(x == ("__debug__":Str))=false):wpAny (model X.prog X.w) X.A (exec (.Try body [.ExceptHandler (some (.Name x np)) (some n) (b₀::suite) hpos] [] [] pos) X.env) (SP X pins D) X.xe s:=by
 refine wpAny_Try_except ?_
 have lk:LnkG (X.held pins (fun e s₁=>wpAny (model X.prog X.w) X.A (noteFrame e X.env) (fun _ s₂=>wpAny (model X.prog X.w) X.A (setFlight e none) (fun _ s₃=>wpAny (model X.prog X.w) X.A (handleBy e X.env [.ExceptHandler (some (.Name x np)) (some n) (b₀::suite) hpos]) (SP X pins D) X.xe s₃) X.xe s₂) X.xe s₁)) G:=by
  intro pins1 σ1 H1 s1 H2 s2 a Ca I1 I2 tr g0
  have g:=hG Ca σ1 H2 g0
  have J1:=I1.less.unheld
  have J2:=I2.less.unheld
  obtain ⟨t0,t1,oe,vs,T,oT,ts,a1,a2,a3,a4,a5,a6,a7,a8,a9,a10⟩:=tr
  have far:∀{σ':St} {H':Hp} {s':Shared},Inv X pins σ' H' s'->∀b,s'.heap.get? b=none->X.s₀.heap.get? b=none/\H' b=none/\b≠X.env.locals/\(∀y c,X.env.cells.lookup y=some c->c≠b)/\∀p∈X.pn++pins,p.1≠b:=fun {σ' H' s'} J b z=>by
   refine ⟨?_,?_,fun y=>?_,fun y c e y'=>?_,fun p hp y=>?_⟩
   ·cases q:X.s₀.heap.get? b with
    | none=>rfl
    | some o=>obtain ⟨_,e⟩:=J.base.there b o q (by show b ∉ X.ex;rw [hx];intro z;cases z);rw [z] at e;cases e
   ·cases q:H' b with
    | none=>rfl
    | some o=>obtain ⟨_,e⟩:=(J.hok _ _ q).ex;rw [z] at e;cases e
   ·obtain ⟨m,⟨o,_,_,ho,_⟩,_⟩:=J.loc
    rw [<-show b=_ from y,z] at ho;cases ho
   ·obtain ⟨v,o,ho,_⟩:=J.cell y c e
    rw [y',z] at ho;cases ho
   ·have:=(J.pin p hp).1
    rw [y,z] at this;cases this
  have fa:=far J1 a t1
  have fT:=far J1 T a6
  show wpAny (model X.prog X.w) X.A (noteFrame (.ref a) X.env) _ X.xe s2
  refine note_next (base:=X.base) (outer:=X.outer) (by rw [<-hs];exact I.ok.frames) (by rw [<-hs];exact J2.stack) hL a1 a3 a4 a5 a8 a9 a10 fun h3 n3 ⟨oe',vs',T',oT',ts',fl,b1,b2,b3,b4,b5,b6,b7,b8,b9⟩=>?_
  have J3:=inv_note (t':=s2.toks) hs hL hx J2 (by rw [hs];exact n3) (fun b hb=>by
   rcases List.mem_cons.mp hb with rfl|hb
   ·exact ⟨fa.1,t0,fa.2.2⟩
   ·rw [List.mem_singleton.mp hb];exact ⟨fT.1,a7,fT.2.2⟩)
  have fT':X.s₀.heap.get? T'=none/\H2 T'=none/\T'≠X.env.locals/\(∀y c,X.env.cells.lookup y=some c->c≠T')/\∀p∈X.pn++pins,p.1≠T':=by
   rcases b6 with z|z
   ·exact far J2 T' z
   ·rw [z];exact ⟨fT.1,a7,fT.2.2⟩
  have nf3:T' ∉ frs X.stack:=fun z=>by
   obtain ⟨_,o,q,nf⟩:=J3.stack.mem z
   rw [show h3.get? T'=some oT' from b7] at q;cases q
   exact nf _ b8
  refine flight_none (s:={ s2 with heap:=h3 }) b1 b3 b4 b7 b8 b9 fun h4 k4 ⟨oT4,ts4,c1,c2,c3⟩=>?_
  have J4:=inv_note (t':=s2.toks) hs hL hx J3 (note_one k4 nf3) (fun b hb=>by rw [List.mem_singleton.mp hb];exact fT')
  have e4:h4.get? a=some oe':=k4 a oe' b1 (Ne.symm b5)
  refine wpAny_handleBy_cons (codeAny_handlers_test ?_) (by intro q;cases q)
  have K4:=J4.suite (A:=X.A.mark (some (.ref a))) rfl
  refine ld_glob (X:=X.suite pins (X.A.mark (some (.ref a)))) K4 hg c.m ?_ hdb
  refine excMatches_own (K:=X.K) K4.kIn c g.1 e4 (by rw [b2,a2]) ?_
  refine codeAny_handlers_suite_as ?_
  refine flight_none (s:={ s2 with heap:=h4 }) e4 b3 b4 c1 c2 c3 fun h5 k5 ⟨oT5,ts5,d1,d2,d3⟩=>?_
  have J5:=inv_note (t':=s2.toks) hs hL hx J4 (note_one k5 nf3) (fun b hb=>by rw [List.mem_singleton.mp hb];exact fT')
  have K5:=J5.suite (A:=X.A.mark (some (.ref a))) rfl
  have e5:h5.get? a=some oe':=k5 a oe' e4 (Ne.symm b5)
  refine store_ok2 (X:=X.suite pins (X.A.mark (some (.ref a)))) (i:=i) (v:=.ref a) K5 hN hi (.inl hn) rfl (fun s6 K6 ⟨b,same,hb⟩=>?_) (.inr hn)
  have e6:s6.heap.get? a=some oe':=by
   refine (same.2 a fun z=>?_).trans e5
   rcases hb with y|y
   ·exact fa.2.2.1 (z.trans y)
   ·exact fa.2.2.2.1 n b y z.symm
  have K7:=inv_track K6 hx t0 fa.1 ⟨oe',e6,by rw [b2,a2],vs',b3⟩ fa.2.2.2.1 (fun p hp=>fa.2.2.2.2 p (by rw [List.append_nil] at hp;exact hp))
  obtain ⟨th,hh,ht⟩:=g.2 a t0
  refine wpAny_mono (hh [] s6 _ _ (D.goes i) K7 ht) (fun f s8 q=>?_) fun _ _ z=>z.elim
  cases f with
  | next=>
   obtain ⟨σ9,H9,K9,q9⟩:=q
   exact goes_ok (X:=X.suite pins (X.A.mark (some (.ref a)))) K9 hN hi hn fun s10 K10=>⟨_,H9,K10.unsuite I.ok.hd I.ok.frames,q9⟩
  | brk=>
   obtain ⟨σ9,H9,K9,q9⟩:=q
   exact goes_ok (X:=X.suite pins (X.A.mark (some (.ref a)))) K9 hN hi hn fun s10 K10=>⟨_,H9,K10.unsuite I.ok.hd I.ok.frames,q9⟩
  | cont=>
   obtain ⟨σ9,H9,K9,q9⟩:=q
   exact goes_ok (X:=X.suite pins (X.A.mark (some (.ref a)))) K9 hN hi hn fun s10 K10=>⟨_,H9,K10.unsuite I.ok.hd I.ok.frames,q9⟩
  | ret u=>
   obtain ⟨v,σ9,H9,K9,r,q9⟩:=q
   exact goes_ok (X:=X.suite pins (X.A.mark (some (.ref a)))) K9 hN hi hn fun s10 K10=>⟨v,_,H9,K10.unsuite I.ok.hd I.ok.frames,r,q9⟩
 obtain ⟨tb,hb',hq⟩:=hb _ lk
 refine wpAny_mono (hb' [] s σ H D I.held hq) (fun f s1 q=>?_) fun _ _ z=>z
 cases f with
 | next=>
  obtain ⟨σ',H',I',q⟩:=q
  exact wpAny_execs_nil ⟨σ',H',I'.unheld,q⟩
 | brk=>obtain ⟨σ',H',I',q⟩:=q;exact ⟨σ',H',I'.unheld,q⟩
 | cont=>obtain ⟨σ',H',I',q⟩:=q;exact ⟨σ',H',I'.unheld,q⟩
 | ret u=>obtain ⟨v,σ',H',I',r,q⟩:=q;exact ⟨v,σ',H',I'.unheld,r,q⟩
end
structure XF (K:PySem.W.Frag) (C:Addr):Prop where
 ok:PySem.W.excIn K C vbm "ValueError.__new__"=true
 ga:PySem.W.findIn K (.ref C) "__getattribute__"=some (some (.builtin "BaseException.__getattribute__"))
 gx:PySem.W.findIn K (.ref C) "__getattr__"=some none
 cl:PySem.W.findIn K (.ref C) "__class__"=some (some (.builtin "object.__class__"))
section
variable {prog:Program} {w:World} {A:Around} {E:Value->Shared->Prop} {h:Heap} {g:Array GenState} {d:Drawn} {t:Nat} {os:OsState} {a C:Addr} {o:Obj} {K:PySem.W.Frag}
theorem xc_get {R:Result->Shared->Prop} (f:XF K C) (I:K.In h) (hx:h.get? a=some o) (hc:o.cls=.ref C) (hq:R (.ok (.ret (.ref C))) ⟨h,g,d,t,os⟩) :
  codeAny (model prog w) A (.call (.builtin "getset_descriptor.__get__") ⟨[.builtin "object.__class__",.ref a,.ref C],[]⟩) R ⟨h,g,d,t,os⟩:=by
 obtain ⟨m0,n0,nm0,q0,b0,d0,s0,u0,a0,c0,dd0,j0,j1,j2,j3,j5,f0,hD,hN,hni,T⟩:=(XCl.own (mg:=fun _=>some (.ref C)) (x:="x") ⟨rfl,f.ok⟩ I).obj
 have gsd:Shared.TypeIs ⟨h,g,d,t,os⟩ (.builtin "object.__class__") "getset_descriptor":=F.typeOf_object_class
 have hcO:(Value.ref C::m0).contains (.type (".".intercalate ("object.__class__".cutAt '.').dropLast))=true:=by
  rw [F.owner_object_class,List.contains_cons,T.hasType (b:=true) (by decide)];rfl
 refine codeAny_call_builtin F.slot_gs_get.plain F.entry_gs_get (F.slot_gs_get.check _ _ _ _ _ _ _ _ gsd (F.args_gs_get _ _ _) ?_)
 repeat (any_goals (first|assumption|(with_reducible refine wpAny_loadPart_at hx ?_;rw [hc])|(with_reducible refine wpAny_isSubtype_exc hD ?_;rw [hcO])|wp_step))
 refine ⟨Code.quiet_builtin _ (by decide +kernel),?_⟩
 refine codeAny_builtin F.entry_object_class ?_
 repeat (any_goals (first|assumption|(with_reducible refine wpAny_loadPart_at hx ?_;rw [hc])|wp_step))
theorem xc_look {n:Str} {r:Option Value} {Q:Option Value->Shared->Prop} (I:K.In h) (e:PySem.W.findIn K (.ref C) n=some r) (hq:Q r ⟨h,g,d,t,os⟩):wpAny (model prog w) A (typeLookup (.ref C) n) Q E ⟨h,g,d,t,os⟩:=
 PySem.W.looks_findIn (M:=model prog w) I e A Q E ⟨h,g,d,t,os⟩ (fun _ _ z=>z) hq
theorem xc_entry {tk:Tok} {Q:Fin->Shared->Prop} (f:XF K C) (I:K.In h) (hx:h.get? a=some o) (hc:o.cls=.ref C) (hq:Q (.done (.ret (.ref C))) ⟨h,g,d,t,os⟩):wpAny (model prog w) A (Builtin.«object.__getattribute__» ⟨[.ref a,.str "__class__" tk],[]⟩) Q E ⟨h,g,d,t,os⟩:=by
 have gsd:Shared.TypeIs ⟨h,g,d,t,os⟩ (.builtin "object.__class__") "getset_descriptor":=F.typeOf_object_class
 have g5:=F.typeOf_object_class;have g6:=F.slot_gs_get.lookup;have g7:=F.slot_gs_set.lookup
 repeat (any_goals (first|assumption|(with_reducible refine wpAny_loadPart_at hx ?_;rw [hc])|with_reducible refine xc_look I f.cl ?_|wp_step))
 refine xc_get f I hx hc ?_
 repeat any_goals first|assumption|wp_step
theorem xc_check {M:Model} {nameV:Value} {Q:Unit->Shared->Prop} (f:XF K C) (I:K.In h) (hx:h.get? a=some o) (hc:o.cls=.ref C) (hq:Q () ⟨h,g,d,t,os⟩) :
  wpAny M A (checkBuiltinCall "BaseException.__getattribute__" ⟨[.ref a,nameV],[]⟩) Q E ⟨h,g,d,t,os⟩:=by
 obtain ⟨m0,n0,nm0,q0,b0,d0,s0,u0,a0,c0,dd0,j0,j1,j2,j3,j5,f0,hD,hN,hni,T⟩:=(XCl.own (mg:=fun _=>some (.ref C)) (x:="x") ⟨rfl,f.ok⟩ I).obj
 have k1:builtinKind "BaseException.__getattribute__"=some .slot:=by decide +kernel
 have k2:splitId "BaseException.__getattribute__"=some ("BaseException","__getattribute__"):=by decide +kernel
 have hcO:(Value.ref C::m0).contains (.type "BaseException")=true:=by rw [List.contains_cons,T.hasType F.excBase_ValueError.hasBase];rfl
 have hargs:=F.args_bexc_ga (.ref a) nameV
 simp only [checkBuiltinCall,k1,k2]
 refine wpAny_bind ?_
 ·unfold isInstance
  repeat (first|(with_reducible refine wpAny_loadPart_at hx ?_;rw [hc])|(with_reducible refine wpAny_isSubtype_exc hD ?_;rw [hcO])|wp_step)
  exact hq
theorem xc_call {tk:Tok} {R:Result->Shared->Prop} (f:XF K C) (I:K.In h) (hx:h.get? a=some o) (hc:o.cls=.ref C) (hq:R (.ok (.ret (.ref C))) ⟨h,g,d,t,os⟩) :
  codeAny (model prog w) A (.call (.builtin "BaseException.__getattribute__") ⟨[.ref a,.str "__class__" tk],[]⟩) R ⟨h,g,d,t,os⟩:=
 codeAny_call_builtin F.attrBase_ValueError.ga.plain F.entry_bexc_ga (xc_check f I hx hc (xc_entry f I hx hc hq))
theorem xc_by {tk:Tok} {Q:Value->Shared->Prop} (f:XF K C) (I:K.In h) (hx:h.get? a=some o) (hc:o.cls=.ref C) (hq:Q (.ref C) ⟨h,g,d,t,os⟩):wpAny (model prog w) A (getAttrBy (.ref a) (.str "__class__" tk) false) Q E ⟨h,g,d,t,os⟩:=by
 have f3:=F.attrBase_ValueError.ga.bind (.ref a)
 have z2:(Value.builtin "BaseException.__getattribute__" == Value.builtin "object.__getattribute__")=false:=by decide +kernel
 have z1:(onTheHeap (Value.ref C) && Value.builtin "BaseException.__getattribute__" == Value.builtin "object.__getattribute__")=false:=by rw [z2];rfl
 repeat (any_goals (first|assumption|(with_reducible refine wpAny_loadPart_at hx ?_;rw [hc])|with_reducible refine xc_look I f.ga ?_|with_reducible refine xc_look I f.gx ?_|wp_step))
 refine xc_call f I hx hc ?_
 repeat any_goals first|assumption|wp_step
theorem xc_attr {Q:Option Value->Shared->Prop} (f:XF K C) (I:K.In h) (hx:h.get? a=some o) (hc:o.cls=.ref C) (hq:Q (some (.ref C)) ⟨h,g,d,t+1,os⟩):wpAny (model prog w) A (getAttr? (.ref a) "__class__") Q E ⟨h,g,d,t,os⟩:=by
 unfold getAttr? getAttrBy?
 repeat (any_goals (first|assumption|with_reducible apply xc_by f I hx hc|wp_step))
end
theorem kitx_exc {K:PySem.W.Frag} {a C:Addr} (f:XF K C):PySem.W.KitX K (.ref a) (.ref C) (IsExc a C) where
 ty:=fun M h _ ⟨o,h1,h2,_⟩=>h2▸(PySem.W.Looks.ld h1).andThen .now
 it:=fun M h I _=>by
  obtain ⟨m0,n0,nm0,q0,b0,d0,s0,u0,a0,c0,dd0,j0,j1,j2,j3,j5,f0,hD,_⟩:=(XCl.own (mg:=fun _=>some (.ref C)) (x:="x") ⟨rfl,f.ok⟩ I).obj
  intro A' Q' E' s' k q
  unfold isType loadHead
  exact wpAny_bind (wpAny_loadPart (k _ _ hD) (wpAny_pure q))
 ne:=fun h tp dd its n sl I htp=>by
  obtain ⟨m0,n0,nm0,q0,b0,d0,s0,u0,a0,c0,dd0,j0,j1,j2,j3,j5,f0,hD,_⟩:=(XCl.own (mg:=fun _=>some (.ref C)) (x:="x") ⟨rfl,f.ok⟩ I).obj
  refine Bool.eq_false_iff.mpr fun q=>?_
  have e:C=tp:=Value.ref.inj (beq_iff_eq.mp q)
  subst e
  rw [hD] at htp
  have:=congrArg (fun o=>o.map (·.cls)) htp
  simp at this
 ca:=fun {_ _ _ _ _ s} I ⟨o,h1,h2,_⟩ k=>by obtain ⟨h,g,d,t,os⟩:=s;exact xc_attr f I h1 h2 k
section
variable {prog:Program} {w:World} {A:Around} {E:Value->Shared->Prop} {h:Heap} {g:Array GenState} {d:Drawn} {t:Nat} {os:OsState} {a:Addr} {o:Obj}
theorem xb_get {R:Result->Shared->Prop} (hx:h.get? a=some o) (hc:o.cls=.type "ValueError") (hq:R (.ok (.ret (.type "ValueError"))) ⟨h,g,d,t,os⟩) :
  codeAny (model prog w) A (.call (.builtin "getset_descriptor.__get__") ⟨[.builtin "object.__class__",.ref a,.type "ValueError"],[]⟩) R ⟨h,g,d,t,os⟩:=by
 have ty:Shared.TypeIs ⟨h,g,d,t,os⟩ (.ref a) "ValueError":=⟨_,hx,hc⟩
 have gsd:Shared.TypeIs ⟨h,g,d,t,os⟩ (.builtin "object.__class__") "getset_descriptor":=F.typeOf_object_class
 have so:isSubtype (.type "ValueError") (.type (".".intercalate ("object.__class__".cutAt '.').dropLast))=pure true:=by rw [F.owner_object_class,isSubtype_type];kernel_rfl
 refine codeAny_call_builtin F.slot_gs_get.plain F.entry_gs_get (F.slot_gs_get.check _ _ _ _ _ _ _ _ gsd (F.args_gs_get _ _ _) ?_)
 repeat any_goals first|assumption|wp_step
 refine ⟨Code.quiet_builtin _ (by decide +kernel),?_⟩
 refine codeAny_builtin F.entry_object_class ?_
 repeat any_goals first|assumption|wp_step
theorem xb_entry {tk:Tok} {Q:Fin->Shared->Prop} (hx:h.get? a=some o) (hc:o.cls=.type "ValueError") (hq:Q (.done (.ret (.type "ValueError"))) ⟨h,g,d,t,os⟩):wpAny (model prog w) A (Builtin.«object.__getattribute__» ⟨[.ref a,.str "__class__" tk],[]⟩) Q E ⟨h,g,d,t,os⟩:=by
 have ty:Shared.TypeIs ⟨h,g,d,t,os⟩ (.ref a) "ValueError":=⟨_,hx,hc⟩
 have gsd:Shared.TypeIs ⟨h,g,d,t,os⟩ (.builtin "object.__class__") "getset_descriptor":=F.typeOf_object_class
 have g4:typeLookup (.type "ValueError") "__class__"=pure (some (.builtin "object.__class__")):=by rw [typeLookup_type,builtinLookup_eq_fast];kernel_rfl
 have g5:=F.typeOf_object_class;have g6:=F.slot_gs_get.lookup;have g7:=F.slot_gs_set.lookup
 repeat any_goals first|assumption|wp_step
 refine xb_get hx hc ?_
 repeat any_goals first|assumption|wp_step
theorem xb_call {tk:Tok} {R:Result->Shared->Prop} (hx:h.get? a=some o) (hc:o.cls=.type "ValueError") (hq:R (.ok (.ret (.type "ValueError"))) ⟨h,g,d,t,os⟩) :
  codeAny (model prog w) A (.call (.builtin "BaseException.__getattribute__") ⟨[.ref a,.str "__class__" tk],[]⟩) R ⟨h,g,d,t,os⟩:=
 codeAny_call_builtin F.excAttr_ValueError.ga.plain F.entry_bexc_ga (F.excAttr_ValueError.ga.check _ _ _ _ _ _ _ _ (show Shared.TypeIs ⟨h,g,d,t,os⟩ (.ref a) "ValueError" from ⟨_,hx,hc⟩) (F.args_bexc_ga _ _) (xb_entry hx hc hq))
theorem xb_by {tk:Tok} {Q:Value->Shared->Prop} (hx:h.get? a=some o) (hc:o.cls=.type "ValueError") (hq:Q (.type "ValueError") ⟨h,g,d,t,os⟩):wpAny (model prog w) A (getAttrBy (.ref a) (.str "__class__" tk) false) Q E ⟨h,g,d,t,os⟩:=by
 have ty:Shared.TypeIs ⟨h,g,d,t,os⟩ (.ref a) "ValueError":=⟨_,hx,hc⟩
 have g2:=F.excAttr_ValueError.ga.lookup;have g3:=F.excAttr_ValueError.ga.bind (.ref a)
 repeat any_goals first|assumption|wp_step
 refine xb_call hx hc ?_
 repeat any_goals first|assumption|wp_step
theorem xb_attr {Q:Option Value->Shared->Prop} (hx:h.get? a=some o) (hc:o.cls=.type "ValueError") (hq:Q (some (.type "ValueError")) ⟨h,g,d,t+1,os⟩):wpAny (model prog w) A (getAttr? (.ref a) "__class__") Q E ⟨h,g,d,t,os⟩:=by
 unfold getAttr? getAttrBy?
 repeat any_goals first|assumption|with_reducible apply xb_by hx hc|wp_step
end
theorem kitx_exb {K:PySem.W.Frag} {a:Addr}:PySem.W.KitX K (.ref a) (.type "ValueError") (PySem.W.KitAt a "ValueError"):=
 PySem.W.kitx_of PySem.W.kitAt_ty fun {_ _ _ _ _ s} ⟨o,h1,h2⟩ k=>by obtain ⟨h,g,d,t,os⟩:=s;exact xb_attr h1 h2 k
abbrev XB (a:Addr):HO:=.ext (PySem.W.KitAt a "ValueError")
section
variable {X:Cx} {σ:St} {H:Hp}
def TyX (K:PySem.W.Frag) (H:Hp) (v:V) (t:Value):Prop:=TyOf K H v t\/∃a Cl,v=.ref a/\(H a=some (XO a Cl)/\t=.ref Cl/\XF K Cl\/H a=some (XB a)/\t=.type "ValueError")
theorem ty_kit {pins:List (Addr × Obj)} {s:Shared} {v:V} {u t:Value} (I:Inv X pins σ H s) (rx:RelV v u) (ty:TyX X.K H v t):∃φ:Heap->Prop,PySem.W.KitX X.K u t φ/\φ s.heap/\u≠.builtin "__main__.__loader__#opaque":=by
 rcases ty with ty|⟨a,Cl,rfl,⟨ha,rfl,xf⟩|⟨ha,rfl⟩⟩
 ·cases ty with
  | non=>cases (show u=Value.none from rx);exact ⟨_,PySem.W.kitx_none,trivial,fun z=>nomatch z⟩
  | bl y=>cases (show u=Value.bool y from rx);exact ⟨_,PySem.W.kitx_bool,trivial,fun z=>nomatch z⟩
  | int i=>obtain ⟨_,q⟩:=(show ∃t,u=Value.int i t from rx);cases q;exact ⟨_,PySem.W.kitx_int,trivial,fun z=>nomatch z⟩
  | str y=>obtain ⟨_,q⟩:=(show ∃t,u=Value.str y t from rx);cases q;exact ⟨_,PySem.W.kitx_str,trivial,fun z=>nomatch z⟩
  | flt y=>obtain ⟨_,q⟩:=(show ∃t,u=Value.float y t from rx);cases q;exact ⟨_,PySem.W.kitx_float,trivial,fun z=>nomatch z⟩
  | @lst a xs ea=>
   cases (show u=Value.ref a from rx)
   obtain ⟨_,_,n,_,h1⟩:=(show ObjOk X.prog X.w H s.heap a (.lst xs) from I.hok a _ ea)
   exact ⟨_,PySem.W.kitx_list,⟨_,h1,rfl⟩,fun z=>nomatch z⟩
  | @frz a ob xs ea=>
   cases (show u=Value.ref a from rx)
   obtain ⟨_,_,_,n,_,h1⟩:=(show ObjOk X.prog X.w H s.heap a (.frz ob (.lst xs)) from I.hok a _ ea)
   exact ⟨_,PySem.W.kitx_list,⟨_,h1,rfl⟩,fun z=>nomatch z⟩
  | @tup a xs ea=>
   cases (show u=Value.ref a from rx)
   obtain ⟨_,_,_,o,h1,h2,_⟩:=(show ObjOk X.prog X.w H s.heap a (.tup xs) from I.hok a _ ea)
   exact ⟨_,PySem.W.kitx_tuple,⟨o,h1,h2⟩,fun z=>nomatch z⟩
  | @dK a kvs ea=>
   cases (show u=Value.ref a from rx)
   obtain ⟨_,_,vs,_,o,es,ep,h1,h2,_⟩:=(show ObjOk X.prog X.w H s.heap a (.dK kvs) from I.hok a _ ea)
   exact ⟨_,PySem.W.kitx_dict,⟨o,h1,h2.1⟩,fun z=>nomatch z⟩
  | @dT a kvs ea=>
   cases (show u=Value.ref a from rx)
   obtain ⟨_,_,xs,_,o,es,ep,h1,h2,_⟩:=(show ObjOk X.prog X.w H s.heap a (.dT kvs) from I.hok a _ ea)
   exact ⟨_,PySem.W.kitx_dict,⟨o,h1,h2.1⟩,fun z=>nomatch z⟩
  | @ins a C dx fs ea cl ha hn htk hm=>
   cases (show u=Value.ref a from rx)
   obtain ⟨mA,O,_⟩:=ins_get I.hok ea
   obtain ⟨od,J,_⟩:=O.look
   exact ⟨_,PySem.W.kitx_own (cl.get _) cl.hd ha hn htk hm,J,fun z=>nomatch z⟩
 ·cases (show u=Value.ref a from rx)
  obtain ⟨φ,_,_⟩:=(show ObjOk X.prog X.w H s.heap a (XO a Cl) from I.hok a _ ha)
  exact ⟨_,kitx_exc xf,φ,fun z=>nomatch z⟩
 ·cases (show u=Value.ref a from rx)
  obtain ⟨φ,_,_⟩:=(show ObjOk X.prog X.w H s.heap a (XB a) from I.hok a _ ha)
  exact ⟨_,kitx_exb,φ,fun z=>nomatch z⟩
theorem isX_ok {pins:List (Addr × Obj)} {s:Shared} {A:Around} {E:Value->Shared->Prop} {Q:Value->Shared->Prop} {v:V} {u t c:Value} {k:Bool} (I:Inv X pins σ H s) (rx:RelV v u) (ty:TyX X.K H v t) (e:PySem.W.kitOne X.K t c=some k)
  (h:∀tk,Q (.bool k) { s with toks:=tk }):wpAny (model X.prog X.w) A (call (.builtin "isinstance") [u,c]) Q E s:=by
 obtain ⟨φ,Z,hz,ne⟩:=ty_kit I rx ty
 exact PySem.W.kia_one Z I.kIn hz e ne h
def rIsX (K:PySem.W.Frag):List V->Hp->VK->Prop:=fun vs H Q=>∃v y c t k,vs=[v,y]/\(∀u,RelV y u->u=c)/\TyX K H v t/\PySem.W.kitOne K t c=some k/\Q (.bl k) H
theorem call_isX {K:PySem.W.Frag} (hK:X.K=K):CallR X (.builtin "isinstance") (rIsX K):=fun pins s σ H vs us Q I r ⟨v,y,c,t,k,e,hc,ty,ek,q⟩=>by
 subst e
 cases r with
 | cons r1 r2=>
  cases r2 with
  | cons r3 r4=>
   cases r4
   rw [hc _ r3]
   rw [<-hK] at ty ek
   exact isX_ok I r1 ty ek fun tk=>⟨.bl k,H,I.tok tk,rfl,q⟩
end
inductive D where
 | non|bl (b:Bool)|int (i:Int)|str (x:Str)|lst (xs:List D)|tup (xs:List D)|atom (v:V)|scr (ns:List Int)|dic (ks:List Key) (ds:List D)|exc (C:Addr)|exb
mutual
inductive Rep (K:PySem.W.Frag) (F:Hp):D->V->Prop
 | non:Rep K F .non .non
 | bl (b:Bool):Rep K F (.bl b) (.bl b)
 | int (i:Int):Rep K F (.int i) (.int i)
 | str (x:Str):Rep K F (.str x) (.str x)
 | atom (v:V):Rep K F (.atom v) v
 | lst {a:Addr} {vs:List V} {ds:List D}:F a=some (.lst vs)->RepL K F ds vs->Rep K F (.lst ds) (.ref a)
 | tup {a:Addr} {vs:List V} {ds:List D}:F a=some (.tup vs)->RepL K F ds vs->Rep K F (.tup ds) (.ref a)
 | scr {a:Addr} {ns:List Int}:SqL K F a (ns.map V.int)->Rep K F (.scr ns) (.ref a)
 | dic {a:Addr} {ks:List Key} {vs:List V} {ds:List D}:F a=some (.dK (ks.zip vs))->ks.length=vs.length->RepL K F ds vs->Rep K F (.dic ks ds) (.ref a)
 | exc {a C:Addr}:F a=some (XO a C)->Rep K F (.exc C) (.ref a)
 | exb {a:Addr}:F a=some (XB a)->Rep K F .exb (.ref a)
inductive RepL (K:PySem.W.Frag) (F:Hp):List D->List V->Prop
 | nil:RepL K F [] []
 | cons {d:D} {v:V} {ds:List D} {vs:List V}:Rep K F d v->RepL K F ds vs->RepL K F (d::ds) (v::vs)
end
mutual
theorem Rep.mono {K:PySem.W.Frag} {F F':Hp} (h:Same F F'):∀{d:D} {v:V},Rep K F d v->Rep K F' d v
 | _,_,.non=>.non
 | _,_,.bl b=>.bl b
 | _,_,.int i=>.int i
 | _,_,.str x=>.str x
 | _,_,.atom v=>.atom v
 | _,_,.lst q r=>.lst (h _ _ q) (RepL.mono h r)
 | _,_,.tup q r=>.tup (h _ _ q) (RepL.mono h r)
 | _,_,.scr q=>.scr (h.seq q)
 | _,_,.dic q l r=>.dic (h _ _ q) l (RepL.mono h r)
 | _,_,.exc q=>.exc (h _ _ q)
 | _,_,.exb q=>.exb (h _ _ q)
theorem RepL.mono {K:PySem.W.Frag} {F F':Hp} (h:Same F F'):∀{ds:List D} {vs:List V},RepL K F ds vs->RepL K F' ds vs
 | _,_,.nil=>.nil
 | _,_,.cons r t=>.cons (Rep.mono h r) (RepL.mono h t)
end
section
variable {K:PySem.W.Frag} {F:Hp}
theorem RepL.length:∀{ds:List D} {vs:List V},RepL K F ds vs->ds.length=vs.length
 | _,_,.nil=>rfl
 | _,_,.cons _ t=>by rw [List.length_cons,List.length_cons,RepL.length t]
theorem RepL.get:∀{ds:List D} {vs:List V} {i:Nat} {d:D},RepL K F ds vs->ds[i]? = some d->∃v,vs[i]? = some v/\Rep K F d v
 | _,_,_,_,.nil,e=>by simp at e
 | _,_,0,_,.cons r _,e=>by simp at e;subst e;exact ⟨_,rfl,r⟩
 | _,_,i+1,d,.cons _ t,e=>by
  obtain ⟨u,h1,h2⟩:=RepL.get (i:=i) (d:=d) t (by simpa using e)
  exact ⟨u,by simpa using h1,h2⟩
theorem RepL.set {d:D} {v:V} (r:Rep K F d v):∀{ds:List D} {vs:List V} (i:Nat),RepL K F ds vs->RepL K F (ds.set i d) (vs.set i v)
 | _,_,_,.nil=>.nil
 | _,_,0,.cons _ t=>.cons r t
 | _,_,i+1,.cons q t=>.cons q (RepL.set r i t)
theorem RepL.append:∀{ds es:List D} {vs us:List V},RepL K F ds vs->RepL K F es us->RepL K F (ds++es) (vs++us)
 | _,_,_,_,.nil,s=>s
 | _,_,_,_,.cons r t,s=>.cons r (RepL.append t s)
theorem RepL.take:∀{ds:List D} {vs:List V} (n:Nat),RepL K F ds vs->RepL K F (ds.take n) (vs.take n)
 | _,_,0,_=>.nil
 | _,_,_+1,.nil=>.nil
 | _,_,n+1,.cons r t=>.cons r (RepL.take n t)
theorem RepL.drop:∀{ds:List D} {vs:List V} (n:Nat),RepL K F ds vs->RepL K F (ds.drop n) (vs.drop n)
 | _,_,0,r=>r
 | _,_,_+1,.nil=>.nil
 | _,_,n+1,.cons _ t=>RepL.drop n t
theorem RepL.reverse:∀{ds:List D} {vs:List V},RepL K F ds vs->RepL K F ds.reverse vs.reverse
 | _,_,.nil=>.nil
 | _,_,.cons r t=>by
  rw [List.reverse_cons,List.reverse_cons]
  exact (RepL.reverse t).append (.cons r .nil)
theorem RepL.ints:∀{ns:List Int} {vs:List V},RepL K F (ns.map D.int) vs->vs=ns.map V.int
 | [],_,.nil=>rfl
 | _::r,_,.cons q t=>by
  cases q
  rw [List.map_cons,RepL.ints (ns:=r) t]
theorem RepL.of_ints:∀(ns:List Int),RepL K F (ns.map D.int) (ns.map V.int)
 | []=>.nil
 | n::r=>.cons (.int n) (RepL.of_ints r)
end
inductive Sl where
 | d (x:D)|own (xs:List D)|bor (xs:List D)
abbrev PSt:=List (Option Sl)
inductive Ev where
 | fz (x:D)|ow (i:Nat)
def Sl.val:Sl->D
 | .d x=>x
 | .own xs=>.lst xs
 | .bor xs=>.lst xs
def Sl.put (ys:List D):Sl->Sl
 | .own _=>.own ys
 | .bor _=>.bor ys
 | .d x=>.d x
def Sl.mu:Sl->Bool
 | .d _=>false
 | .own _=>true
 | .bor _=>true
def Sl.ev (i:Nat):Sl->Ev
 | .d x=>.fz x
 | .own _=>.ow i
 | .bor _=>.ow i
def lk (p:PSt):Ev->D
 | .fz x=>x
 | .ow i=>match p[i]? with
  | some (some s)=>s.val
  | _=>.non
inductive Rt where
 | rd (x:D)|ro (xs:List D)
def Rt.val:Rt->D
 | .rd x=>x
 | .ro xs=>.lst xs
def Rt.sl:Rt->Sl
 | .rd x=>.d x
 | .ro xs=>.own xs
structure Pc where
 K:PySem.W.Frag
 F0:Hp
 H0:Hp
 bs:List (Nat × Addr)
def SlRel (C:Pc) (F H:Hp):Sl->V->Prop
 | .d x,v=>Rep C.K F x v
 | .own xs,v=>∃a vs,v=.ref a/\F a=none/\C.H0 a=none/\H a=some (.lst vs)/\RepL C.K F xs vs
 | .bor xs,v=>∃a vs,v=.ref a/\F a=none/\(∃q∈C.bs,q.2=a)/\H a=some (.lst vs)/\RepL C.K F xs vs
structure RS (C:Pc) (p:PSt) (σ:St) (F H:Hp):Prop where
 sub:Same F H
 ext:Same C.F0 F
 new:∀a o,F a=some o->C.F0 a=some o\/C.H0 a=none\/∃xs,o=.tup xs
 keep:∀a o,C.H0 a=some o->(∀q∈C.bs,q.2≠a)->H a=some o
 grow:∀a,C.H0 a≠none->H a≠none
 len:p.length=σ.length
 sl:∀(i:Nat) (s:Sl),p[i]? = some (some s)->∃v,σ[i]? = some (some v)/\SlRel C F H s v
 apart:∀(i j:Nat) (s s':Sl) (a:Addr),i≠j->p[i]? = some (some s)->s.mu=true->p[j]? = some (some s')->s'.mu=true->σ[i]? = some (some (.ref a))->σ[j]? = some (some (.ref a))->False
 pin:∀q∈C.bs,σ[q.1]? = some (some (.ref q.2))/\∃xs,p[q.1]? = some (some (.bor xs))
def Shp (p p1:PSt):Prop:=p1.length=p.length/\∀(i:Nat) (s:Sl),p[i]? = some (some s)->s.mu=true->∃s1,p1[i]? = some (some s1)/\s1.mu=true
theorem Shp.refl (p:PSt):Shp p p:=⟨rfl,fun _ s h m=>⟨s,h,m⟩⟩
theorem Shp.trans {p p1 p2:PSt} (a:Shp p p1) (b:Shp p1 p2):Shp p p2:=⟨b.1.trans a.1,fun i s h m=>let ⟨s1,h1,m1⟩:=a.2 i s h m;b.2 i s1 h1 m1⟩
def EvR (K:PySem.W.Frag) (p:PSt) (σ:St) (F:Hp):Ev->V->Prop
 | .fz x,v=>Rep K F x v
 | .ow i,v=>(∃s,p[i]? = some (some s)/\s.mu=true)/\σ[i]? = some (some v)
theorem EvR.mono {K:PySem.W.Frag} {p p1:PSt} {σ:St} {F F1:Hp} {e:Ev} {v:V} (h:EvR K p σ F e v) (s:Same F F1) (sh:Shp p p1):EvR K p1 σ F1 e v:=by
 cases e with
 | fz x=>exact Rep.mono s h
 | ow i=>exact ⟨let ⟨⟨s,h1,m⟩,_⟩:=h;sh.2 i s h1 m,h.2⟩
abbrev TQ:=PSt->(Ev->PSt->Prop)->Prop
abbrev TN:=PSt->(Rt->PSt->Prop)->Prop
abbrev TTQ:=PSt->(Bool->PSt->Prop)->Prop
abbrev TAQ:=PSt->(List Ev->PSt->Prop)->Prop
def Mine (p:PSt) (σ:St) (a:Addr):Prop:=∀(i:Nat) (s:Sl),p[i]? = some (some s)->s.mu=true->σ[i]?≠some (some (.ref a))
def RtR (C:Pc) (p:PSt) (σ:St) (F H:Hp):Rt->V->Prop
 | .rd x,v=>Rep C.K F x v
 | .ro xs,v=>∃a vs,v=.ref a/\F a=none/\C.H0 a=none/\H a=some (.lst vs)/\RepL C.K F xs vs/\Mine p σ a
def XQ (C:Pc) (p:PSt) (σ:St) (F:Hp) (R:Ev->PSt->Prop) (v:V) (H1:Hp):Prop:=∃e p1 F1,RS C p1 σ F1 H1/\Same F F1/\Shp p p1/\EvR C.K p1 σ F1 e v/\R e p1
def XN (C:Pc) (p:PSt) (σ:St) (F:Hp) (R:Rt->PSt->Prop) (v:V) (H1:Hp):Prop:=∃r p1 F1,RS C p1 σ F1 H1/\Same F F1/\Shp p p1/\RtR C p1 σ F1 H1 r v/\R r p1
def XT (C:Pc) (p:PSt) (σ:St) (F:Hp) (R:Bool->PSt->Prop) (b:Bool) (H1:Hp):Prop:=∃p1 F1,RS C p1 σ F1 H1/\Same F F1/\Shp p p1/\R b p1
inductive EvRs (K:PySem.W.Frag) (p:PSt) (σ:St) (F:Hp):List Ev->List V->Prop
 | nil:EvRs K p σ F [] []
 | cons {e v es vs}:EvR K p σ F e v->EvRs K p σ F es vs->EvRs K p σ F (e::es) (v::vs)
def XA (C:Pc) (p:PSt) (σ:St) (F:Hp) (R:List Ev->PSt->Prop) (vs:List V) (H1:Hp):Prop:=∃es p1 F1,RS C p1 σ F1 H1/\Same F F1/\Shp p p1/\EvRs C.K p1 σ F1 es vs/\R es p1
def Up (C:Pc) (t:TQ):TE:=fun σ H Q=>∃p F R,RS C p σ F H/\t p R/\∀v H1,XQ C p σ F R v H1->Q v H1
def UpN (C:Pc) (t:TN):TE:=fun σ H Q=>∃p F R,RS C p σ F H/\t p R/\∀v H1,XN C p σ F R v H1->Q v H1
def UpT (C:Pc) (t:TTQ):TT:=fun σ H Q=>∃p F R,RS C p σ F H/\t p R/\∀b H1,XT C p σ F R b H1->Q b H1
def UpA (C:Pc) (t:TAQ):TA:=fun σ H Q=>∃p F R,RS C p σ F H/\t p R/\∀vs H1,XA C p σ F R vs H1->Q vs H1
section
variable {X:Cx} {C:Pc} {p:PSt} {σ:St} {F H:Hp}
theorem QE.mk {e:Expr} {t:TE} {t':TQ} (h:PE X e t) (hi:∀p σ F H R,RS C p σ F H->t' p R->t σ H (XQ C p σ F R)):PE X e (Up C t'):=fun pins s σ H Q I ⟨p,F,R,rs,ht,hq⟩=>
 thn (h pins s σ H _ I (hi p σ F H R rs ht)) fun _ _ ⟨v,H1,I1,r1,q1⟩=>⟨v,H1,I1,r1,hq v H1 q1⟩
theorem QN.mk {e:Expr} {t:TE} {t':TN} (h:PE X e t) (hi:∀p σ F H R,RS C p σ F H->t' p R->t σ H (XN C p σ F R)):PE X e (UpN C t'):=fun pins s σ H Q I ⟨p,F,R,rs,ht,hq⟩=>
 thn (h pins s σ H _ I (hi p σ F H R rs ht)) fun _ _ ⟨v,H1,I1,r1,q1⟩=>⟨v,H1,I1,r1,hq v H1 q1⟩
theorem QT.mk {e:Expr} {t:TT} {t':TTQ} (h:PT X e t) (hi:∀p σ F H R,RS C p σ F H->t' p R->t σ H (XT C p σ F R)):PT X e (UpT C t'):=fun pins s σ H Q I ⟨p,F,R,rs,ht,hq⟩=>
 thn (h pins s σ H _ I (hi p σ F H R rs ht)) fun _ _ ⟨H1,I1,q1⟩=>⟨H1,I1,hq _ H1 q1⟩
theorem QW.mk {e:Expr} {t:TT} {t':TTQ} (h:PW X e t) (hi:∀p σ F H R,RS C p σ F H->t' p R->t σ H (XT C p σ F R)):PW X e (UpT C t'):=fun wh pins s σ H Q I ⟨p,F,R,rs,ht,hq⟩=>
 thn (h wh pins s σ H _ I (hi p σ F H R rs ht)) fun _ _ ⟨H1,I1,q1⟩=>⟨H1,I1,hq _ H1 q1⟩
theorem QA.mk {es:List Expr} {t:TA} {t':TAQ} (h:PA X es t) (hi:∀p σ F H R,RS C p σ F H->t' p R->t σ H (XA C p σ F R)):PA X es (UpA C t'):=fun pos pins s σ H Q I ⟨p,F,R,rs,ht,hq⟩=>
 thn (h pos pins s σ H _ I (hi p σ F H R rs ht)) fun _ _ ⟨vs,H1,I1,r1,q1⟩=>⟨vs,H1,I1,r1,hq vs H1 q1⟩
theorem up1 {ta:TQ} {R1:Ev->PSt->Prop} {Q:V->Hp->Prop} (rs:RS C p σ F H) (ht:ta p R1)
  (k:∀e p1 v F1 H1,RS C p1 σ F1 H1->Same F F1->Shp p p1->EvR C.K p1 σ F1 e v->R1 e p1->Q v H1):Up C ta σ H Q:=
 ⟨p,F,R1,rs,ht,fun v H1 ⟨e,p1,F1,rs1,s1,sh,er,q⟩=>k e p1 v F1 H1 rs1 s1 sh er q⟩
theorem upT1 {ta:TTQ} {R1:Bool->PSt->Prop} {Q:Bool->Hp->Prop} (rs:RS C p σ F H) (ht:ta p R1)
  (k:∀b p1 F1 H1,RS C p1 σ F1 H1->Same F F1->Shp p p1->R1 b p1->Q b H1):UpT C ta σ H Q:=
 ⟨p,F,R1,rs,ht,fun b H1 ⟨p1,F1,rs1,s1,sh,q⟩=>k b p1 F1 H1 rs1 s1 sh q⟩
theorem upN1 {ta:TN} {R1:Rt->PSt->Prop} {Q:V->Hp->Prop} (rs:RS C p σ F H) (ht:ta p R1)
  (k:∀r p1 v F1 H1,RS C p1 σ F1 H1->Same F F1->Shp p p1->RtR C p1 σ F1 H1 r v->R1 r p1->Q v H1):UpN C ta σ H Q:=
 ⟨p,F,R1,rs,ht,fun v H1 ⟨e,p1,F1,rs1,s1,sh,er,q⟩=>k e p1 v F1 H1 rs1 s1 sh er q⟩
theorem upA1 {ta:TAQ} {R1:List Ev->PSt->Prop} {Q:List V->Hp->Prop} (rs:RS C p σ F H) (ht:ta p R1)
  (k:∀es p1 vs F1 H1,RS C p1 σ F1 H1->Same F F1->Shp p p1->EvRs C.K p1 σ F1 es vs->R1 es p1->Q vs H1):UpA C ta σ H Q:=
 ⟨p,F,R1,rs,ht,fun v H1 ⟨e,p1,F1,rs1,s1,sh,er,q⟩=>k e p1 v F1 H1 rs1 s1 sh er q⟩
theorem up2 {ta tb:TQ} {R:Ev->Ev->PSt->Prop} {Q:V->V->Hp->Prop} (rs:RS C p σ F H) (ht:ta p fun e1 p1=>tb p1 fun e2 p2=>R e1 e2 p2)
  (k:∀e1 e2 p1 v1 v2 F1 H1,RS C p1 σ F1 H1->Same F F1->Shp p p1->EvR C.K p1 σ F1 e1 v1->EvR C.K p1 σ F1 e2 v2->R e1 e2 p1->Q v1 v2 H1):Up C ta σ H fun x H1=>Up C tb σ H1 fun y H2=>Q x y H2:=
 up1 rs ht fun e1 p1 v1 F1 H1 rs1 s1 sh1 er1 q1=>up1 rs1 q1 fun e2 p2 v2 F2 H2 rs2 s2 sh2 er2 q2=>
  k e1 e2 p2 v1 v2 F2 H2 rs2 (s1.trans s2) (sh1.trans sh2) (er1.mono s2 sh2) er2 q2
theorem ev_int {e:Ev} {v:V} {i:Int} (er:EvR C.K p σ F e v) (h:lk p e=.int i):v=.int i:=by
 cases e with
 | fz x=>dsimp only [lk] at h;subst h;cases er;rfl
 | ow j=>
  obtain ⟨⟨s,h1,m⟩,_⟩:=er
  dsimp only [lk] at h
  rw [h1] at h
  cases s with
  | d x=>cases m
  | own xs=>cases h
  | bor xs=>cases h
theorem ev_bl {e:Ev} {v:V} {b:Bool} (er:EvR C.K p σ F e v) (h:lk p e=.bl b):v=.bl b:=by
 cases e with
 | fz x=>dsimp only [lk] at h;subst h;cases er;rfl
 | ow j=>
  obtain ⟨⟨s,h1,m⟩,_⟩:=er
  dsimp only [lk] at h
  rw [h1] at h
  cases s with
  | d x=>cases m
  | own xs=>cases h
  | bor xs=>cases h
theorem ev_non {e:Ev} {v:V} (er:EvR C.K p σ F e v) (h:lk p e=.non):v=.non:=by
 cases e with
 | fz x=>dsimp only [lk] at h;subst h;cases er;rfl
 | ow j=>
  obtain ⟨⟨s,h1,m⟩,_⟩:=er
  dsimp only [lk] at h
  rw [h1] at h
  cases s with
  | d x=>cases m
  | own xs=>cases h
  | bor xs=>cases h
theorem ev_str {e:Ev} {v:V} {b:Str} (er:EvR C.K p σ F e v) (h:lk p e=.str b):v=.str b:=by
 cases e with
 | fz x=>dsimp only [lk] at h;subst h;cases er;rfl
 | ow j=>
  obtain ⟨⟨s,h1,m⟩,_⟩:=er
  dsimp only [lk] at h
  rw [h1] at h
  cases s with
  | d x=>cases m
  | own xs=>cases h
  | bor xs=>cases h
theorem ev_atom {e:Ev} {v w:V} (er:EvR C.K p σ F e v) (h:lk p e=.atom w):v=w:=by
 cases e with
 | fz x=>dsimp only [lk] at h;subst h;cases er;rfl
 | ow j=>
  obtain ⟨⟨s,h1,m⟩,_⟩:=er
  dsimp only [lk] at h
  rw [h1] at h
  cases s with
  | d x=>cases m
  | own xs=>cases h
  | bor xs=>cases h
theorem ev_lst {e:Ev} {v:V} {ds:List D} (rs:RS C p σ F H) (er:EvR C.K p σ F e v) (h:lk p e=.lst ds):∃a vs,v=.ref a/\H a=some (.lst vs)/\RepL C.K F ds vs:=by
 cases e with
 | fz x=>
  dsimp only [lk] at h;subst h
  cases er with
  | lst q r=>exact ⟨_,_,rfl,rs.sub _ _ q,r⟩
 | ow j=>
  obtain ⟨⟨s,h1,m⟩,h2⟩:=er
  dsimp only [lk] at h
  rw [h1] at h
  obtain ⟨w,e1,sr⟩:=rs.sl j s h1
  rw [h2] at e1;cases e1
  cases s with
  | d x=>cases m
  | own xs=>
   obtain ⟨a,vs,rfl,_,_,hH,r⟩:=sr
   cases h
   exact ⟨a,vs,rfl,hH,r⟩
  | bor xs=>
   obtain ⟨a,vs,rfl,_,_,hH,r⟩:=sr
   cases h
   exact ⟨a,vs,rfl,hH,r⟩
theorem ev_tup {e:Ev} {v:V} {ds:List D} (rs:RS C p σ F H) (er:EvR C.K p σ F e v) (h:lk p e=.tup ds):∃a vs,v=.ref a/\H a=some (.tup vs)/\RepL C.K F ds vs:=by
 cases e with
 | fz x=>
  dsimp only [lk] at h;subst h
  cases er with
  | tup q r=>exact ⟨_,_,rfl,rs.sub _ _ q,r⟩
 | ow j=>
  obtain ⟨⟨s,h1,m⟩,h2⟩:=er
  dsimp only [lk] at h
  rw [h1] at h
  cases s with
  | d x=>cases m
  | own xs=>cases h
  | bor xs=>cases h
theorem ev_scr {e:Ev} {v:V} {ns:List Int} (rs:RS C p σ F H) (er:EvR C.K p σ F e v) (h:lk p e=.scr ns):∃a,v=.ref a/\SqL C.K H a (ns.map V.int):=by
 cases e with
 | fz x=>
  dsimp only [lk] at h;subst h
  cases er with
  | scr q=>exact ⟨_,rfl,rs.sub.seq q⟩
 | ow j=>
  obtain ⟨⟨s,h1,m⟩,h2⟩:=er
  dsimp only [lk] at h
  rw [h1] at h
  cases s with
  | d x=>cases m
  | own xs=>cases h
  | bor xs=>cases h
theorem ev_exb {e:Ev} {v:V} (rs:RS C p σ F H) (er:EvR C.K p σ F e v) (h:lk p e=.exb):∃a,v=.ref a/\H a=some (XB a):=by
 cases e with
 | fz x=>
  have h:x=.exb:=h
  subst h
  cases (show Rep C.K F .exb v from er) with
  | exb q=>exact ⟨_,rfl,rs.sub _ _ q⟩
 | ow i=>
  exfalso
  unfold lk at h
  cases hp:p[i]? with
  | none=>simp [hp] at h
  | some o=>
   cases o with
   | none=>simp [hp] at h
   | some s=>
    simp [hp] at h
    have m:=er.1
    cases s with
    | d x=>
     obtain ⟨w,h1,h2⟩:=m
     rw [hp] at h1;cases h1
     cases h2
    | own xs=>cases h
    | bor xs=>cases h
theorem ev_dic {e:Ev} {v:V} {ks:List Key} {ds:List D} (rs:RS C p σ F H) (er:EvR C.K p σ F e v) (h:lk p e=.dic ks ds):∃a vs,v=.ref a/\H a=some (.dK (ks.zip vs))/\ks.length=vs.length/\RepL C.K F ds vs:=by
 cases e with
 | fz x=>
  dsimp only [lk] at h;subst h
  cases er with
  | dic q l r=>exact ⟨_,_,rfl,rs.sub _ _ q,l,r⟩
 | ow j=>
  obtain ⟨⟨s,h1,m⟩,h2⟩:=er
  dsimp only [lk] at h
  rw [h1] at h
  cases s with
  | d x=>cases m
  | own xs=>cases h
  | bor xs=>cases h
theorem RS.laid {a:Addr} {o:HO} (rs:RS C p σ F H) (ha:H a=none):RS C p σ F (upd H a o):=by
 have sm:=same_upd ha o
 refine ⟨rs.sub.trans sm,rs.ext,rs.new,fun b u e n=>sm b u (rs.keep b u e n),fun b n e=>?_,rs.len,fun i s e=>?_,rs.apart,rs.pin⟩
 ·have:=rs.grow b n
  cases q:H b with
  | none=>exact this q
  | some u=>rw [sm b u q] at e;cases e
 ·obtain ⟨v,e1,r⟩:=rs.sl i s e
  refine ⟨v,e1,?_⟩
  cases s with
  | d x=>exact r
  | own xs=>obtain ⟨b,vs,z1,z2,z3,z4,z5⟩:=r;exact ⟨b,vs,z1,z2,z3,sm _ _ z4,z5⟩
  | bor xs=>obtain ⟨b,vs,z1,z2,z3,z4,z5⟩:=r;exact ⟨b,vs,z1,z2,z3,sm _ _ z4,z5⟩
theorem RS.free {a:Addr} (rs:RS C p σ F H) (ha:H a=none):F a=none/\C.H0 a=none/\Mine p σ a:=by
 refine ⟨rs.sub.free ha,?_,fun i s e m z=>?_⟩
 ·cases q:C.H0 a with
  | none=>rfl
  | some o=>exact absurd ha (rs.grow a (by rw [q];intro w;cases w))
 ·obtain ⟨v,e1,r⟩:=rs.sl i s e
  rw [z] at e1;cases e1
  cases s with
  | d x=>cases m
  | own xs=>obtain ⟨b,vs,z1,z2,z3,z4,z5⟩:=r;cases z1;rw [ha] at z4;cases z4
  | bor xs=>obtain ⟨b,vs,z1,z2,z3,z4,z5⟩:=r;cases z1;rw [ha] at z4;cases z4
theorem RS.freeze {a:Addr} {o:HO} (rs:RS C p σ F H) (hF:F a=none) (h0:C.H0 a=none) (hH:H a=some o) (mi:Mine p σ a):RS C p σ (upd F a o) H:=by
 have sm:=same_upd hF o
 refine ⟨fun b u e=>?_,rs.ext.trans sm,fun b u e=>?_,rs.keep,rs.grow,rs.len,fun i s e=>?_,rs.apart,rs.pin⟩
 ·by_cases hb:b=a
  ·subst hb;rw [upd_same] at e;cases e;exact hH
  ·rw [upd_ne hb] at e;exact rs.sub b u e
 ·by_cases hb:b=a
  ·subst hb;exact .inr (.inl h0)
  ·rw [upd_ne hb] at e;exact rs.new b u e
 ·obtain ⟨v,e1,r⟩:=rs.sl i s e
  refine ⟨v,e1,?_⟩
  cases s with
  | d x=>exact Rep.mono sm r
  | own xs=>
   obtain ⟨b,vs,rfl,z2,z3,z4,z5⟩:=r
   have hb:b≠a:=fun z=>mi i _ e rfl (z▸e1)
   exact ⟨b,vs,rfl,by rw [upd_ne hb];exact z2,z3,z4,z5.mono sm⟩
  | bor xs=>
   obtain ⟨b,vs,rfl,z2,z3,z4,z5⟩:=r
   have hb:b≠a:=fun z=>mi i _ e rfl (z▸e1)
   exact ⟨b,vs,rfl,by rw [upd_ne hb];exact z2,z3,z4,z5.mono sm⟩
theorem RS.put {a:Addr} {o:HO} (rs:RS C p σ F H) (ha:H a=none):RS C p σ (upd F a o) (upd H a o):=by
 obtain ⟨h1,h2,h3⟩:=rs.free ha
 exact (rs.laid (o:=o) ha).freeze h1 h2 upd_same h3
theorem RS.write {i:Nat} {s:Sl} {a:Addr} {us:List V} {ys:List D} (rs:RS C p σ F H) (hp:p[i]? = some (some s)) (m:s.mu=true) (hσ:σ[i]? = some (some (.ref a))) (hr:RepL C.K F ys us) :
  RS C (p.set i (some (s.put ys))) σ F (upd H a (.lst us))/\Shp p (p.set i (some (s.put ys))):=by
 have hi:i<p.length:=(List.getElem?_eq_some_iff.mp hp).1
 obtain ⟨v,e1,r⟩:=rs.sl i s hp
 rw [hσ] at e1;cases e1
 have fa:F a=none/\(C.H0 a=none\/∃q∈C.bs,q.2=a)/\∃vs,H a=some (.lst vs):=by
  cases s with
  | d x=>cases m
  | own xs=>obtain ⟨b,vs,e,z2,z3,z4,z5⟩:=r;cases e;exact ⟨z2,.inl z3,vs,z4⟩
  | bor xs=>obtain ⟨b,vs,e,z2,z3,z4,z5⟩:=r;cases e;exact ⟨z2,.inr z3,vs,z4⟩
 obtain ⟨fa,ha,vs0,hH⟩:=fa
 have hm:(s.put ys).mu=true:=by cases s<;>first|rfl|cases m
 refine ⟨⟨fun b u e=>?_,rs.ext,rs.new,fun b u e n=>?_,fun b n e=>?_,by rw [List.length_set];exact rs.len,fun j s' e=>?_,fun j k s1 s2 b hjk e1 m1 e2 m2 x1 x2=>?_,fun q hq=>?_⟩,⟨List.length_set,fun j s' e m'=>?_⟩⟩
 ·rw [upd_ne (fun z=>by rw [z,fa] at e;cases e)];exact rs.sub b u e
 ·have hb:b≠a:=fun z=>by
   subst z
   rcases ha with z|⟨q,hq,z⟩
   ·rw [z] at e;cases e
   ·exact n q hq z
  rw [upd_ne hb];exact rs.keep b u e n
 ·by_cases hb:b=a
  ·subst hb;rw [upd_same] at e;cases e
  ·rw [upd_ne hb] at e;exact rs.grow b n e
 ·by_cases hj:j=i
  ·subst hj
   rw [List.getElem?_set_self hi] at e
   cases e
   refine ⟨.ref a,hσ,?_⟩
   cases s with
   | d x=>cases m
   | own xs=>obtain ⟨b,vs,e,z2,z3,z4,z5⟩:=r;cases e;exact ⟨a,us,rfl,fa,z3,upd_same,hr⟩
   | bor xs=>obtain ⟨b,vs,e,z2,z3,z4,z5⟩:=r;cases e;exact ⟨a,us,rfl,fa,z3,upd_same,hr⟩
  ·rw [List.getElem?_set_ne (Ne.symm hj)] at e
   obtain ⟨v,e1,r'⟩:=rs.sl j s' e
   refine ⟨v,e1,?_⟩
   cases s' with
   | d x=>exact r'
   | own xs=>
    obtain ⟨b,vs,rfl,z2,z3,z4,z5⟩:=r'
    have hb:b≠a:=fun z=>rs.apart j i _ _ a hj e rfl hp m (z▸e1) hσ
    exact ⟨b,vs,rfl,z2,z3,by rw [upd_ne hb];exact z4,z5⟩
   | bor xs=>
    obtain ⟨b,vs,rfl,z2,z3,z4,z5⟩:=r'
    have hb:b≠a:=fun z=>rs.apart j i _ _ a hj e rfl hp m (z▸e1) hσ
    exact ⟨b,vs,rfl,z2,z3,by rw [upd_ne hb];exact z4,z5⟩
 ·have back:∀(j:Nat) (s':Sl),(p.set i (some (s.put ys)))[j]? = some (some s')->∃s'',p[j]? = some (some s'')/\(s'.mu=true->s''.mu=true):=fun j s' e=>by
   by_cases hj:j=i
   ·subst hj;exact ⟨s,hp,fun _=>m⟩
   ·rw [List.getElem?_set_ne (Ne.symm hj)] at e;exact ⟨s',e,id⟩
  obtain ⟨t1,f1,g1⟩:=back j s1 e1
  obtain ⟨t2,f2,g2⟩:=back k s2 e2
  exact rs.apart j k t1 t2 b hjk f1 (g1 m1) f2 (g2 m2) x1 x2
 ·obtain ⟨z1,xs,z2⟩:=rs.pin q hq
  refine ⟨z1,?_⟩
  by_cases hj:q.1=i
  ·rw [hj] at z2 ⊢
   rw [hp] at z2;cases z2
   exact ⟨ys,by rw [List.getElem?_set_self hi];rfl⟩
  ·exact ⟨xs,by rw [List.getElem?_set_ne (Ne.symm hj)];exact z2⟩
 ·by_cases hj:j=i
  ·subst hj;exact ⟨_,List.getElem?_set_self hi,hm⟩
  ·exact ⟨s',by rw [List.getElem?_set_ne (Ne.symm hj)];exact e,m'⟩
end
section
variable {X:Cx} {C:Pc} {a b c e:Expr} {ta tb tc:TQ} {pos:Pos} {K:PySem.W.Frag}
def qVar (i:Nat):TQ:=fun p Q=>∃s,p[i]? = some (some s)/\Q (s.ev i) p
theorem q_var {i:Nat} (h:PE X e (tVar i)):PE X e (Up C (qVar i)):=QE.mk h fun p σ F H R rs ⟨s,e1,q⟩=>by
 obtain ⟨v,e2,r⟩:=rs.sl i s e1
 refine ⟨v,e2,s.ev i,p,F,rs,.refl _,.refl _,?_,q⟩
 cases s with
 | d x=>exact r
 | own xs=>exact ⟨⟨_,e1,rfl⟩,e2⟩
 | bor xs=>exact ⟨⟨_,e1,rfl⟩,e2⟩
def qC (x:D):TQ:=fun p Q=>Q (.fz x) p
theorem q_c {v:V} {x:D} (h:PE X e (tC v)) (r:∀F,Rep C.K F x v):PE X e (Up C (qC x)):=QE.mk h fun p σ F H R rs q=>⟨.fz x,p,F,rs,.refl _,.refl _,r F,q⟩
def q2 (Cn:Int->Int->Prop) (g:Int->Int->D) (ta tb:TQ):TQ:=fun p Q=>ta p fun e1 p1=>tb p1 fun e2 p2=>∃i j,lk p2 e1=.int i/\lk p2 e2=.int j/\Cn i j/\Q (.fz (g i j)) p2
def q20 (g:Int->Int->D) (ta tb:TQ):TQ:=fun p Q=>ta p fun e1 p1=>tb p1 fun e2 p2=>∃i j,lk p2 e1=.int i/\lk p2 e2=.int j/\Q (.fz (g i j)) p2
theorem fin_ev {p p1:PSt} {σ:St} {F F1 H1:Hp} {R:Ev->PSt->Prop} {x:D} {v:V} (rs:RS C p1 σ F1 H1) (s1:Same F F1) (sh:Shp p p1) (r:Rep C.K F1 x v) (q:R (.fz x) p1):XQ C p σ F R v H1:=⟨.fz x,p1,F1,rs,s1,sh,r,q⟩
theorem q_op {op:Operator} {Cn:Int->Int->Prop} {gv:Int->Int->V} {g:Int->Int->D} (ho:OpR X (binaryOp op) (rI Cn gv)) (hg:∀i j F,Rep C.K F (g i j) (gv i j)) (ha:PE X a (Up C ta)) (hb:PE X b (Up C tb)) :
  PE X (.BinOp a op b pos) (Up C (q2 Cn g ta tb)):=
 QE.mk (pe_op ho ha hb) fun p σ F H R rs ht=>up2 rs ht fun e1 e2 p1 v1 v2 F1 H1 rs1 s1 sh er1 er2 ⟨i,j,h1,h2,c,q⟩=>⟨i,j,ev_int er1 h1,ev_int er2 h2,c,fin_ev rs1 s1 sh (hg i j F1) q⟩
theorem q_op0 {op:Operator} {gv:Int->Int->V} {g:Int->Int->D} (ho:OpR X (binaryOp op) (rI0 gv)) (hg:∀i j F,Rep C.K F (g i j) (gv i j)) (ha:PE X a (Up C ta)) (hb:PE X b (Up C tb)) :
  PE X (.BinOp a op b pos) (Up C (q20 g ta tb)):=
 QE.mk (pe_op ho ha hb) fun p σ F H R rs ht=>up2 rs ht fun e1 e2 p1 v1 v2 F1 H1 rs1 s1 sh er1 er2 ⟨i,j,h1,h2,q⟩=>⟨i,j,ev_int er1 h1,ev_int er2 h2,fin_ev rs1 s1 sh (hg i j F1) q⟩
theorem q_add (ha:PE X a (Up C ta)) (hb:PE X b (Up C tb)):PE X (.BinOp a .Add b pos) (Up C (q20 (fun i j=>.int (i+j)) ta tb)):=q_op0 op_add (fun _ _ _=>.int _) ha hb
theorem q_sub (ha:PE X a (Up C ta)) (hb:PE X b (Up C tb)):PE X (.BinOp a .Sub b pos) (Up C (q20 (fun i j=>.int (i - j)) ta tb)):=q_op0 op_sub (fun _ _ _=>.int _) ha hb
theorem q_mul (ha:PE X a (Up C ta)) (hb:PE X b (Up C tb)):PE X (.BinOp a .Mult b pos) (Up C (q2 CMul (fun i j=>.int (i * j)) ta tb)):=q_op op_mul (fun _ _ _=>.int _) ha hb
def Fits (j:Int):Prop:=j.natAbs.log2<9000
theorem Fits.of {j:Int} {n:Nat} (h0:0<j) (h:j<2 ^ n) (hn:n<=9000):Fits j:=by
 unfold Fits
 have h1:j.natAbs<2 ^ n:=by
  have:((j.natAbs:Nat):Int)=j:=by omega
  have h2:((j.natAbs:Nat):Int)<((2 ^ n:Nat):Int):=by rw [this];push_cast;exact h
  exact_mod_cast h2
 have h2:j.natAbs≠0:=by omega
 exact Nat.lt_of_lt_of_le ((Nat.log2_lt h2).mpr h1) hn
def CDivQ (i j:Int):Prop:=0<j/\(j<2 ^ 64\/Fits j)
theorem op_fdivQ:OpR X (binaryOp .FloorDiv) (rI CDivQ fun i j=>.int (i / j)):=fun pins s σ H x y v u Q I rx ry ⟨i,j,h1,h2,⟨c1,c2⟩,q⟩=>op_fdivB pins s σ H x y v u Q I rx ry ⟨i,j,h1,h2,⟨c1,by
 rcases c2 with c2|c2
 ·exact Fits.of (n:=64) c1 c2 (by decide)
 ·exact c2⟩,q⟩
theorem q_fdiv (ha:PE X a (Up C ta)) (hb:PE X b (Up C tb)):PE X (.BinOp a .FloorDiv b pos) (Up C (q2 CDivQ (fun i j=>.int (i / j)) ta tb)):=q_op op_fdivQ (fun _ _ _=>.int _) ha hb
def CMod (i j:Int):Prop:=0<j
theorem q_mod (ha:PE X a (Up C ta)) (hb:PE X b (Up C tb)):PE X (.BinOp a .Mod b pos) (Up C (q2 CMod (fun i j=>.int (i % j)) ta tb)):=q_op (Cn:=CMod) op_mod (fun _ _ _=>.int _) ha hb
theorem q_pow (ha:PE X a (Up C ta)) (hb:PE X b (Up C tb)):PE X (.BinOp a .Pow b pos) (Up C (q2 CPow (fun i j=>.int (i ^ j.toNat)) ta tb)):=q_op op_pow (fun _ _ _=>.int _) ha hb
def q1 (g:Int->D) (ta:TQ):TQ:=fun p Q=>ta p fun e1 p1=>∃i,lk p1 e1=.int i/\Q (.fz (g i)) p1
theorem q_neg (ha:PE X a (Up C ta)):PE X (.UnaryOp .USub a pos) (Up C (q1 (fun i=>.int (-i)) ta)):=
 QE.mk (pe_un un_neg ha) fun p σ F H R rs ht=>up1 rs ht fun e1 p1 v1 F1 H1 rs1 s1 sh er1 ⟨i,h1,q⟩=>⟨i,ev_int er1 h1,fin_ev rs1 s1 sh (.int _) q⟩
def qTest (t:TQ):TTQ:=fun p Q=>t p fun e p1=>∃b,lk p1 e=.bl b/\Q b p1
theorem t_cmp {op:CmpOp} {gv:Int->Int->Bool} (ho:OpR X (compareOp op) (rI0 fun i j=>.bl (gv i j))) (hm:behindInMarks op b=false) (ha:PE X a (Up C ta)) (hb:PE X b (Up C tb)) :
  PT X (.Compare a [op] [b] pos) (UpT C (qTest (q20 (fun i j=>.bl (gv i j)) ta tb))):=
 QT.mk (pt_cmpR ho ha hb hm) fun p σ F H R rs ht=>up2 rs ht fun e1 e2 p1 v1 v2 F1 H1 rs1 s1 sh er1 er2 ⟨i,j,h1,h2,b,hb,q⟩=>⟨i,j,ev_int er1 h1,ev_int er2 h2,b,by cases hb;rfl,p1,F1,rs1,s1,sh,q⟩
theorem t_lt (ha:PE X a (Up C ta)) (hb:PE X b (Up C tb)):PT X (.Compare a [.Lt] [b] pos) (UpT C (qTest (q20 (fun i j=>.bl (decide (i<j))) ta tb))):=t_cmp op_lt (nomark _) ha hb
theorem t_gt (ha:PE X a (Up C ta)) (hb:PE X b (Up C tb)):PT X (.Compare a [.Gt] [b] pos) (UpT C (qTest (q20 (fun i j=>.bl (decide (j<i))) ta tb))):=t_cmp op_gt (nomark _) ha hb
theorem t_ge (ha:PE X a (Up C ta)) (hb:PE X b (Up C tb)):PT X (.Compare a [.GtE] [b] pos) (UpT C (qTest (q20 (fun i j=>.bl (decide (j<=i))) ta tb))):=t_cmp op_ge (nomark _) ha hb
def nrm:D->D
 | .scr ns=>.lst (ns.map D.int)
 | x=>x
noncomputable def deq (x y:D):Bool:=@decide (nrm x=nrm y) (Classical.propDecidable _)
def AllI (xs:List D):Prop:=∃ns:List Int,xs=ns.map D.int
inductive EqDom:D->D->Prop
 | int (i j:Int):EqDom (.int i) (.int j)
 | bl (i j:Bool):EqDom (.bl i) (.bl j)
 | str (i j:Str):EqDom (.str i) (.str j)
 | li {xs ys:List D}:AllI xs->AllI ys->EqDom (.lst xs) (.lst ys)
 | sc {ns:List Int} {ys:List D}:AllI ys->EqDom (.scr ns) (.lst ys)
theorem map_int_inj {ns ms:List Int}:ns.map D.int=ms.map D.int ↔ ns=ms:=by
 constructor
 ·intro h
  induction ns generalizing ms with
  | nil=>cases ms with
   | nil=>rfl
   | cons m r=>cases h
  | cons n r ih=>cases ms with
   | nil=>cases h
   | cons m r'=>
    rw [List.map_cons,List.map_cons] at h
    injection h with h1 h2
    injection h1 with h1
    rw [h1,ih h2]
 ·intro h;rw [h]
theorem deq_int (i j:Int):deq (.int i) (.int j)=decide (i=j):=by
 unfold deq nrm
 by_cases h:i=j
 ·subst h;simp
 ·have:D.int i≠D.int j:=fun z=>h (by injection z)
  simp [h,this]
theorem deq_bl (i j:Bool):deq (.bl i) (.bl j)=decide (i=j):=by
 unfold deq nrm
 by_cases h:i=j
 ·subst h;simp
 ·have:D.bl i≠D.bl j:=fun z=>h (by injection z)
  simp [h,this]
theorem deq_str (i j:Str):deq (.str i) (.str j)=decide (i=j):=by
 unfold deq nrm
 by_cases h:i=j
 ·subst h;simp
 ·have:D.str i≠D.str j:=fun z=>h (by injection z)
  simp [h,this]
theorem deq_ints (ns ms:List Int):deq (.lst (ns.map D.int)) (.lst (ms.map D.int))=decide (ns=ms):=by
 unfold deq nrm
 by_cases h:ns=ms
 ·subst h;simp
 ·have:D.lst (ns.map D.int)≠D.lst (ms.map D.int):=fun z=>h (map_int_inj.mp (by injection z))
  simp [h,this]
theorem deq_self (x:D):deq x x=true:=by unfold deq;simp
theorem deq_scr (ns ms:List Int):deq (.scr ns) (.lst (ms.map D.int))=decide (ns=ms):=deq_ints ns ms
theorem deq_scr0 (ns:List Int):deq (.scr ns) (.lst [])=decide (ns=[]):=deq_ints ns []
theorem eqd_scr0 (ns:List Int):EqDom (.scr ns) (.lst [])=True:=eq_true (.sc ⟨[],rfl⟩)
theorem eqd_l0 (ns:List Int):EqDom (.lst (ns.map D.int)) (.lst [])=True:=eq_true (.li ⟨ns,rfl⟩ ⟨[],rfl⟩)
theorem deq_l0 (ns:List Int):deq (.lst (ns.map D.int)) (.lst [])=decide (ns=[]):=deq_ints ns []
theorem eqd_l1 (ns:List Int) (x:Int):EqDom (.lst (ns.map D.int)) (.lst [.int x])=True:=eq_true (.li ⟨ns,rfl⟩ ⟨[x],rfl⟩)
theorem deq_l1 (ns:List Int) (x:Int):deq (.lst (ns.map D.int)) (.lst [.int x])=decide (ns=[x]):=deq_ints ns [x]
theorem eqd_int (i j:Int):EqDom (.int i) (.int j)=True:=eq_true (.int i j)
theorem eqd_bl (i j:Bool):EqDom (.bl i) (.bl j)=True:=eq_true (.bl i j)
theorem eqd_str (i j:Str):EqDom (.str i) (.str j)=True:=eq_true (.str i j)
theorem eq_use {x y:D} {e1 e2:Ev} {v1 v2:V} {p:PSt} {σ:St} {F H:Hp} (d:EqDom x y) (rs:RS C p σ F H) (er1:EvR C.K p σ F e1 v1) (er2:EvR C.K p σ F e2 v2) (h1:lk p e1=x) (h2:lk p e2=y) :
  (scal v1 v2=true/\decide (v1=v2)=deq x y)\/∃(a b:Addr) (ns ms:List Int),v1=.ref a/\v2=.ref b/\SqL C.K H a (ns.map V.int)/\SqL C.K H b (ms.map V.int)/\decide (ns=ms)=deq x y:=by
 cases d with
 | int i j=>rw [ev_int er1 h1,ev_int er2 h2,deq_int];exact .inl ⟨rfl,by simp⟩
 | bl i j=>rw [ev_bl er1 h1,ev_bl er2 h2,deq_bl];exact .inl ⟨rfl,by simp⟩
 | str i j=>rw [ev_str er1 h1,ev_str er2 h2,deq_str];exact .inl ⟨rfl,by simp⟩
 | li q1 q2=>
  obtain ⟨ns,rfl⟩:=q1
  obtain ⟨ms,rfl⟩:=q2
  obtain ⟨a1,vs1,rfl,g1,r1⟩:=ev_lst rs er1 h1
  obtain ⟨a2,vs2,rfl,g2,r2⟩:=ev_lst rs er2 h2
  rw [r1.ints] at g1
  rw [r2.ints] at g2
  exact .inr ⟨a1,a2,ns,ms,rfl,rfl,.of g1,.of g2,by rw [deq_ints]⟩
 | @sc ns ys q2=>
  obtain ⟨ms,rfl⟩:=q2
  obtain ⟨a2,vs2,rfl,g2,r2⟩:=ev_lst rs er2 h2
  rw [r2.ints] at g2
  obtain ⟨a1,rfl,g1⟩:=ev_scr rs er1 h1
  exact .inr ⟨a1,a2,ns,ms,rfl,rfl,g1,.of g2,by rw [deq_scr]⟩
def qEq (f:Bool->Bool) (ta tb:TQ):TQ:=fun p Q=>ta p fun e1 p1=>tb p1 fun e2 p2=>EqDom (lk p2 e1) (lk p2 e2)/\Q (.fz (.bl (f (deq (lk p2 e1) (lk p2 e2))))) p2
theorem op_eqU (h:X.K=K) (hu:X.A.units+64<cLine):OpR X (compareOp .Eq) (fun x y H Q=>rEq x y H Q\/rEqL K x y H Q):=op_eq.or (op_eqLK h hu)
theorem op_neU (h:X.K=K) (hu:X.A.units+64<cLine):OpR X (compareOp .NotEq) (fun x y H Q=>rNe x y H Q\/rNeL K x y H Q):=op_ne.or (op_neLK h hu)
theorem use_eq {x y:V} {H:Hp} {Q:VK} {k:Bool} (h:(scal x y=true/\decide (x=y)=k)\/∃(a b:Addr) (ns ms:List Int),x=.ref a/\y=.ref b/\SqL K H a (ns.map V.int)/\SqL K H b (ms.map V.int)/\decide (ns=ms)=k) (q:Q (.bl k) H) :
  rEq x y H Q\/rEqL K x y H Q:=by
 rcases h with ⟨h1,h2⟩|⟨a,b,ns,ms,h1,h2,h3,h4,h5⟩
 ·exact .inl ⟨h1,by rw [h2];exact q⟩
 ·exact .inr ⟨a,b,ns,ms,h1,h2,h3,h4,by rw [h5];exact q⟩
theorem use_ne {x y:V} {H:Hp} {Q:VK} {k:Bool} (h:(scal x y=true/\decide (x=y)=k)\/∃(a b:Addr) (ns ms:List Int),x=.ref a/\y=.ref b/\SqL K H a (ns.map V.int)/\SqL K H b (ms.map V.int)/\decide (ns=ms)=k) (q:Q (.bl (!k)) H) :
  rNe x y H Q\/rNeL K x y H Q:=by
 rcases h with ⟨h1,h2⟩|⟨a,b,ns,ms,h1,h2,h3,h4,h5⟩
 ·exact .inl ⟨h1,by rw [h2];exact q⟩
 ·exact .inr ⟨a,b,ns,ms,h1,h2,h3,h4,by rw [h5];exact q⟩
theorem q_eq (hK:X.K=C.K) (hu:X.A.units+64<cLine) (ha:PE X a (Up C ta)) (hb:PE X b (Up C tb)):PE X (.Compare a [.Eq] [b] pos) (Up C (qEq (fun k=>k) ta tb)):=
 QE.mk (pe_cmpR (op_eqU hK hu) ha hb (nomark _)) fun p σ F H R rs ht=>up2 rs ht fun e1 e2 p1 v1 v2 F1 H1 rs1 s1 sh er1 er2 ⟨d,q⟩=>use_eq (eq_use d rs1 er1 er2 rfl rfl) (fin_ev rs1 s1 sh (.bl _) q)
theorem q_ne (hK:X.K=C.K) (hu:X.A.units+64<cLine) (ha:PE X a (Up C ta)) (hb:PE X b (Up C tb)):PE X (.Compare a [.NotEq] [b] pos) (Up C (qEq (fun k=>!k) ta tb)):=
 QE.mk (pe_cmpR (op_neU hK hu) ha hb (nomark _)) fun p σ F H R rs ht=>up2 rs ht fun e1 e2 p1 v1 v2 F1 H1 rs1 s1 sh er1 er2 ⟨d,q⟩=>use_ne (eq_use d rs1 er1 er2 rfl rfl) (fin_ev rs1 s1 sh (.bl _) q)
theorem t_eq (hK:X.K=C.K) (hu:X.A.units+64<cLine) (ha:PE X a (Up C ta)) (hb:PE X b (Up C tb)):PT X (.Compare a [.Eq] [b] pos) (UpT C (qTest (qEq (fun k=>k) ta tb))):=
 QT.mk (pt_cmpR (op_eqU hK hu) ha hb (nomark _)) fun p σ F H R rs ht=>up2 rs ht fun e1 e2 p1 v1 v2 F1 H1 rs1 s1 sh er1 er2 ⟨d,k,hk,q⟩=>use_eq (eq_use d rs1 er1 er2 rfl rfl) ⟨k,by cases hk;rfl,p1,F1,rs1,s1,sh,q⟩
def qChain (f g:Int->Int->Bool) (ta tb tc:TQ):TQ:=fun p Q=>ta p fun e1 p1=>tb p1 fun e2 p2=>∃i j,lk p2 e1=.int i/\lk p2 e2=.int j /\
 if f i j=true then tc p2 fun e3 p3=>∃k,lk p3 e3=.int k/\Q (.fz (.bl (g j k))) p3 else Q (.fz (.bl false)) p2
theorem ite_imp {c:Prop} [Decidable c] {A B A' B':Prop} (h1:A->A') (h2:B->B') (h:if c then A else B):if c then A' else B':=by
 by_cases hc:c
 ·rw [if_pos hc] at h ⊢;exact h1 h
 ·rw [if_neg hc] at h ⊢;exact h2 h
theorem t_chain {op op':CmpOp} {f g:Int->Int->Bool} (ho:OpR X (compareOp op) (rI0 fun i j=>.bl (f i j))) (ho':OpR X (compareOp op') (rI0 fun i j=>.bl (g i j))) (ha:PE X a (Up C ta)) (hb:PE X b (Up C tb)) (hc:PE X c (Up C tc))
  (hm:lastMarks [op,op'] [b,c]=false:=by with_unfolding_all rfl):PT X (.Compare a [op,op'] [b,c] pos) (UpT C (qTest (qChain f g ta tb tc))):=
 QT.mk (pt_chain ho ho' ha hb hc hm) fun p σ F H R rs ht=>up2 rs ht fun e1 e2 p1 v1 v2 F1 H1 rs1 s1 sh er1 er2 ⟨i,j,h1,h2,q⟩=>by
  refine ⟨i,j,ev_int er1 h1,ev_int er2 h2,f i j,rfl,?_⟩
  refine ite_imp (fun q=>?_) (fun q=>?_) q
  ·refine up1 rs1 q fun e3 p3 v3 F3 H3 rs3 s3 sh3 er3 ⟨k,h3,l,hl,q3⟩=>?_
   refine ⟨j,k,ev_int er2 h2,ev_int er3 h3,l,by cases hl;rfl,p3,F3,rs3,s1.trans s3,sh.trans sh3,q3⟩
  ·obtain ⟨l,hl,q⟩:=q
   exact ⟨l,by cases hl;rfl,p1,F1,rs1,s1,sh,q⟩
variable {tA tB':TTQ} {rest:List Expr}
theorem t_val {t : TQ} (h : PE X e (Up C t)) (he : ∀ whole, isTrue e X.env whole = (do let v ← whole; standAt e.pos; holding [v] (truthy v)) := by intro _; rfl) : PT X e (UpT C (qTest t)) :=
  QT.mk (pt_val h he) fun p σ F H R rs ht => up1 rs ht fun e1 p1 v1 F1 H1 rs1 s1 sh er1 ⟨k, hk, q⟩ => ⟨k, ev_bl er1 hk, p1, F1, rs1, s1, sh, q⟩
def qAnd (t u:TTQ):TTQ:=fun p Q=>t p fun c p1=>if c=true then u p1 Q else Q false p1
def qOr (t u:TTQ):TTQ:=fun p Q=>t p fun c p1=>if c=true then Q true p1 else u p1 Q
def qNot (t:TTQ):TTQ:=fun p Q=>t p fun c p1=>Q (!c) p1
theorem w_and1 (ha:PT X a (UpT C tA)):PW X (.BoolOp .And [a] pos) (UpT C tA):=pw_and1 ha
theorem w_or1 (ha:PT X a (UpT C tA)):PW X (.BoolOp .Or [a] pos) (UpT C tA):=pw_or1 ha
theorem w_and (ha:PT X a (UpT C tA)) (hb:PW X (.BoolOp .And (b::rest) pos) (UpT C tB')):PW X (.BoolOp .And (a::b::rest) pos) (UpT C (qAnd tA tB')):=
 QW.mk (pw_and ha hb) fun p σ F H R rs ht=>upT1 rs ht fun k p1 F1 H1 rs1 s1 sh q=>ite_imp (fun q=>upT1 rs1 q fun k2 p2 F2 H2 rs2 s2 sh2 q2=>⟨p2,F2,rs2,s1.trans s2,sh.trans sh2,q2⟩) (fun q=>⟨p1,F1,rs1,s1,sh,q⟩) q
theorem w_or (ha:PT X a (UpT C tA)) (hb:PW X (.BoolOp .Or (b::rest) pos) (UpT C tB')):PW X (.BoolOp .Or (a::b::rest) pos) (UpT C (qOr tA tB')):=
 QW.mk (pw_or ha hb) fun p σ F H R rs ht=>upT1 rs ht fun k p1 F1 H1 rs1 s1 sh q=>ite_imp (fun q=>⟨p1,F1,rs1,s1,sh,q⟩) (fun q=>upT1 rs1 q fun k2 p2 F2 H2 rs2 s2 sh2 q2=>⟨p2,F2,rs2,s1.trans s2,sh.trans sh2,q2⟩) q
theorem t_not (ha:PT X a (UpT C tA)):PT X (.UnaryOp .Not a pos) (UpT C (qNot tA)):=
 QT.mk (pt_not ha) fun p σ F H R rs ht=>upT1 rs ht fun k p1 F1 H1 rs1 s1 sh q=>⟨p1,F1,rs1,s1,sh,q⟩
def qAndV (ta tb:TQ):TQ:=fun p Q=>ta p fun e p1=>∃c,lk p1 e=.bl c/\if c=true then tb p1 Q else Q (.fz (.bl false)) p1
def qOrV (ta tb:TQ):TQ:=fun p Q=>ta p fun e p1=>∃c,lk p1 e=.bl c/\if c=true then Q (.fz (.bl true)) p1 else tb p1 Q
theorem q_one {op} (h:PE X a (Up C ta)):PE X (.BoolOp op [a] pos) (Up C ta):=pe_one h
theorem q_andV (ha:PE X a (Up C ta)) (hb:PE X (.BoolOp .And (b::rest) pos) (Up C tb)):PE X (.BoolOp .And (a::b::rest) pos) (Up C (qAndV ta tb)):=
 QE.mk (pe_and ha hb) fun p σ F H R rs ht=>up1 rs ht fun e1 p1 v1 F1 H1 rs1 s1 sh er1 ⟨k,hk,q⟩=>⟨k,ev_bl er1 hk,ite_imp (fun q=>up1 rs1 q fun e2 p2 v2 F2 H2 rs2 s2 sh2 er2 q2=>⟨e2,p2,F2,rs2,s1.trans s2,sh.trans sh2,er2,q2⟩) (fun q=>fin_ev rs1 s1 sh (.bl _) q) q⟩
theorem q_orV (ha:PE X a (Up C ta)) (hb:PE X (.BoolOp .Or (b::rest) pos) (Up C tb)):PE X (.BoolOp .Or (a::b::rest) pos) (Up C (qOrV ta tb)):=
 QE.mk (pe_or ha hb) fun p σ F H R rs ht=>up1 rs ht fun e1 p1 v1 F1 H1 rs1 s1 sh er1 ⟨k,hk,q⟩=>⟨k,ev_bl er1 hk,ite_imp (fun q=>fin_ev rs1 s1 sh (.bl _) q) (fun q=>up1 rs1 q fun e2 p2 v2 F2 H2 rs2 s2 sh2 er2 q2=>⟨e2,p2,F2,rs2,s1.trans s2,sh.trans sh2,er2,q2⟩) q⟩
def qIf (t:TTQ) (ta tb:TQ):TQ:=fun p Q=>t p fun c p1=>if c=true then ta p1 Q else tb p1 Q
theorem q_ifExp (hc:PT X c (UpT C tA)) (ha:PE X a (Up C ta)) (hb:PE X b (Up C tb)):PE X (.IfExp c a b pos) (Up C (qIf tA ta tb)):=
 QE.mk (pe_ifExp hc ha hb) fun p σ F H R rs ht=>upT1 rs ht fun k p1 F1 H1 rs1 s1 sh q=>
  ite_imp (fun q=>up1 rs1 q fun e2 p2 v2 F2 H2 rs2 s2 sh2 er2 q2=>⟨e2,p2,F2,rs2,s1.trans s2,sh.trans sh2,er2,q2⟩) (fun q=>up1 rs1 q fun e2 p2 v2 F2 H2 rs2 s2 sh2 er2 q2=>⟨e2,p2,F2,rs2,s1.trans s2,sh.trans sh2,er2,q2⟩) q
def qFz (t:TN):TQ:=fun p Q=>t p fun r p1=>Q (.fz r.val) p1
theorem RtR.fz {r:Rt} {v:V} {p:PSt} {σ:St} {F H:Hp} (rs:RS C p σ F H) (h:RtR C p σ F H r v):∃F1,RS C p σ F1 H/\Same F F1/\Rep C.K F1 r.val v:=by
 cases r with
 | rd x=>exact ⟨F,rs,.refl _,h⟩
 | ro xs=>
  obtain ⟨a,vs,rfl,h1,h2,h3,h4,h5⟩:=h
  exact ⟨_,rs.freeze h1 h2 h3 h5,same_upd h1 _,.lst upd_same (h4.mono (same_upd h1 _))⟩
theorem q_fz {t:TN} (h:PE X e (UpN C t)):PE X e (Up C (qFz t)):=
 QE.mk h fun p σ F H R rs ht=>upN1 rs ht fun r p1 v1 F1 H1 rs1 s1 sh rr q=>by
  obtain ⟨F2,rs2,s2,r2⟩:=rr.fz rs1
  exact fin_ev rs2 (s1.trans s2) sh r2 q
def nVal (t:TQ):TN:=fun p Q=>t p fun e p1=>∃x,e=.fz x/\Q (.rd x) p1
theorem n_val {t:TQ} (h:PE X e (Up C t)):PE X e (UpN C (nVal t)):=
 QN.mk h fun p σ F H R rs ht=>up1 rs ht fun e1 p1 v1 F1 H1 rs1 s1 sh er1 ⟨x,hx,q⟩=>⟨.rd x,p1,F1,rs1,s1,sh,by subst hx;exact er1,q⟩
variable {es:List Expr} {tas:TAQ}
def qNil:TAQ:=fun p Q=>Q [] p
def qCons (ta:TQ) (tr:TAQ):TAQ:=fun p Q=>ta p fun x p1=>tr p1 fun xs p2=>Q (x::xs) p2
theorem a_nil:PA X [] (UpA C qNil):=QA.mk pa_nil fun p σ F H R rs q=>⟨[],p,F,rs,.refl _,.refl _,.nil,q⟩
theorem a_cons (ha:PE X e (Up C ta)) (hr:PA X es (UpA C tas)) (hs:starEach (e::es) X.env=(false,eval e X.env)::starEach es X.env:=by rfl):PA X (e::es) (UpA C (qCons ta tas)):=
 QA.mk (pa_cons ha hr hs) fun p σ F H R rs ht=>up1 rs ht fun e1 p1 v1 F1 H1 rs1 s1 sh er1 q=>upA1 rs1 q fun es2 p2 vs2 F2 H2 rs2 s2 sh2 er2 q2=>
  ⟨e1::es2,p2,F2,rs2,s1.trans s2,sh.trans sh2,.cons (er1.mono s2 sh2) er2,q2⟩
def fzs:List Ev->Option (List D)
 | []=>some []
 | .fz x::r=>match fzs r with
  | some xs=>some (x::xs)
  | none=>none
 | .ow _::_=>none
theorem fzs_ok {p:PSt} {σ:St} {F:Hp}:∀{es:List Ev} {vs:List V} {xs:List D},EvRs C.K p σ F es vs->fzs es=some xs->RepL C.K F xs vs
 | _,_,_,.nil,h=>by cases h;exact .nil
 | .fz x::r,_,xs,.cons h1 h2,h=>by
  unfold fzs at h
  cases e:fzs r with
  | none=>rw [e] at h;cases h
  | some ys=>rw [e] at h;cases h;exact .cons h1 (fzs_ok h2 e)
 | .ow i::r,_,xs,.cons h1 h2,h=>by cases h
def nLst (t:TAQ):TN:=fun p Q=>t p fun es p1=>∃xs,fzs es=some xs/\xs.length<=100000/\Q (.ro xs) p1
theorem line_of {n:Nat} (h:n<=100000):n<=sizeLine:=Nat.le_trans h (by decide)
theorem fin_new {p p1:PSt} {σ:St} {F F1 H1:Hp} {R:Rt->PSt->Prop} {xs:List D} {vs:List V} {a:Addr} (rs:RS C p1 σ F1 H1) (s1:Same F F1) (sh:Shp p p1) (ha:H1 a=none) (r:RepL C.K F1 xs vs) (q:R (.ro xs) p1):XN C p σ F R (.ref a) (upd H1 a (.lst vs)):=by
 obtain ⟨h1,h2,h3⟩:=rs.free ha
 exact ⟨.ro xs,p1,F1,rs.laid ha,s1,sh,⟨a,vs,rfl,h1,h2,upd_same,r,h3⟩,q⟩
theorem n_lst (h:PA X es (UpA C tas)):PE X (.List es pos) (UpN C (nLst tas)):=
 QN.mk (pe_lst h) fun p σ F H R rs ht=>upA1 rs ht fun es1 p1 vs1 F1 H1 rs1 s1 sh er1 ⟨xs,hx,hl,q⟩=>by
  have r:=fzs_ok er1 hx
  exact ⟨line_of (by rw [<-r.length];exact hl),fun a ha=>fin_new rs1 s1 sh ha r q⟩
def qTup (t:TAQ):TQ:=fun p Q=>t p fun es p1=>∃xs,fzs es=some xs/\xs.length<=100000/\Q (.fz (.tup xs)) p1
theorem q_tup {x1} (h:PA X es (UpA C tas)):PE X (.Tuple es x1 pos) (Up C (qTup tas)):=
 QE.mk (pe_tup h) fun p σ F H R rs ht=>upA1 rs ht fun es1 p1 vs1 F1 H1 rs1 s1 sh er1 ⟨xs,hx,hl,q⟩=>by
  have r:=fzs_ok er1 hx
  refine ⟨line_of (by rw [<-r.length];exact hl),fun a ha=>?_⟩
  obtain ⟨h1,h2,h3⟩:=rs1.free ha
  exact fin_ev (rs1.put ha) (s1.trans (same_upd h1 _)) sh (.tup upd_same (r.mono (same_upd h1 _))) q
end
def seqOf:D->Option (List D)
 | .lst ds=>some ds
 | .tup ds=>some ds
 | _=>none
def seqL:D->Option (List D)
 | .lst ds=>some ds
 | .scr ns=>some (ns.map D.int)
 | _=>none
def mutL (p:PSt) (i:Nat):Option (List D):=match p[i]? with
 | some (some (.own xs))=>some xs
 | some (some (.bor xs))=>some xs
 | _=>none
def putL (p:PSt) (i:Nat) (ys:List D):PSt:=match p[i]? with
 | some (some s)=>p.set i (some (s.put ys))
 | _=>p
def cut {α:Type} (xs:List α) (lo hi:Option Int):List α:=(xs.drop (HT.sIx xs.length 0 lo)).take (HT.sIx xs.length xs.length hi - HT.sIx xs.length 0 lo)
section
variable {X:Cx} {C:Pc} {a b c e:Expr} {ta tb tc:TQ} {pos:Pos} {K:PySem.W.Frag} {p:PSt} {σ:St} {F H:Hp}
theorem RepL.at {ds:List D} {vs:List V} {k:Int} {x:D} (r:RepL K F ds vs) (h:atI ds k=some x):∃v,atI vs k=some v/\Rep K F x v:=by
 unfold atI at h ⊢
 rw [r.length] at h
 cases e:ixN vs.length k with
 | none=>rw [e] at h;cases h
 | some j=>rw [e] at h;exact r.get h
theorem RepL.cut {ds:List D} {vs:List V} (r:RepL K F ds vs) (lo hi:Option Int):RepL K F (cut ds lo hi) (cutV vs lo hi):=by
 unfold L2.cut cutV
 rw [r.length]
 exact (r.drop _).take _
theorem ev_seq {e1:Ev} {v:V} {ds:List D} (rs:RS C p σ F H) (er:EvR C.K p σ F e1 v) (h:seqOf (lk p e1)=some ds):∃a vs,v=.ref a/\(SqL C.K H a vs\/SqT C.K H a vs)/\RepL C.K F ds vs:=by
 cases e:lk p e1 with
 | lst xs=>rw [e] at h;cases h;obtain ⟨a,vs,h1,h2,h3⟩:=ev_lst rs er e;exact ⟨a,vs,h1,.inl (.of h2),h3⟩
 | tup xs=>rw [e] at h;cases h;obtain ⟨a,vs,h1,h2,h3⟩:=ev_tup rs er e;exact ⟨a,vs,h1,.inr (.of h2),h3⟩
 | _=>rw [e] at h;cases h
theorem ev_sq {e1:Ev} {v:V} {ds:List D} (rs:RS C p σ F H) (er:EvR C.K p σ F e1 v) (h:seqL (lk p e1)=some ds):∃a vs,v=.ref a/\SqL C.K H a vs/\RepL C.K F ds vs:=by
 cases e:lk p e1 with
 | lst xs=>rw [e] at h;cases h;obtain ⟨a,vs,h1,h2,h3⟩:=ev_lst rs er e;exact ⟨a,vs,h1,.of h2,h3⟩
 | scr ns=>rw [e] at h;cases h;obtain ⟨a,h1,h2⟩:=ev_scr rs er e;exact ⟨a,_,h1,h2,.of_ints ns⟩
 | _=>rw [e] at h;cases h
def qIx (ta tb:TQ):TQ:=fun p Q=>ta p fun e1 p1=>tb p1 fun e2 p2=>∃ds k x,seqOf (lk p2 e1)=some ds/\lk p2 e2=.int k/\atI ds k=some x/\Q (.fz x) p2
theorem ix_seqK (h:X.K=K):IxR X (fun x y H Q=>rIxL K x y H Q\/rIxT K x y H Q):=by subst h;exact ix_list.or ix_tup
theorem q_ix (hK:X.K=C.K) (ha:PE X a (Up C ta)) (hb:PE X b (Up C tb)) (hs:PlainIx b):PE X (.Subscript a b pos) (Up C (qIx ta tb)):=
 QE.mk (pe_ix (ix_seqK hK) ha hb hs) fun p σ F H R rs ht=>up2 rs ht fun e1 e2 p1 v1 v2 F1 H1 rs1 s1 sh er1 er2 ⟨ds,k,x,h1,h2,h3,q⟩=>by
  obtain ⟨a1,vs,rfl,g,r⟩:=ev_seq rs1 er1 h1
  obtain ⟨v,e3,r3⟩:=r.at h3
  rw [ev_int er2 h2]
  rcases g with g|g
  ·exact .inl ⟨a1,vs,k,v,rfl,rfl,g,e3,fin_ev rs1 s1 sh r3 q⟩
  ·exact .inr ⟨a1,vs,k,v,rfl,rfl,g,e3,fin_ev rs1 s1 sh r3 q⟩
abbrev TOQ:=PSt->(Option Int->PSt->Prop)->Prop
def UpO (C:Pc) (t:TOQ):TO:=fun σ H Q=>∃p F R,RS C p σ F H/\t p R/\∀o H1,(∃p1 F1,RS C p1 σ F1 H1/\Same F F1/\Shp p p1/\R o p1)->Q o H1
def qoNone:TOQ:=fun p Q=>Q none p
def qoSome (t:TQ):TOQ:=fun p Q=>t p fun e p1=>∃i,lk p1 e=.int i/\Q (some i) p1
theorem QO.mk {e:Option Expr} {t:TO} {t':TOQ} (h:PO X e t) (hi:∀p σ F H R,RS C p σ F H->t' p R->t σ H (fun o H1=>∃p1 F1,RS C p1 σ F1 H1/\Same F F1/\Shp p p1/\R o p1)):PO X e (UpO C t'):=fun pins s σ H Q I ⟨p,F,R,rs,ht,hq⟩=>
 thn (h pins s σ H _ I (hi p σ F H R rs ht)) fun _ _ ⟨o,H1,I1,r1,q1⟩=>⟨o,H1,I1,r1,hq o H1 q1⟩
theorem o_none:PO X none (UpO C qoNone):=QO.mk po_none fun p σ F H R rs q=>⟨p,F,rs,.refl _,.refl _,q⟩
theorem o_some (h:PE X e (Up C ta)):PO X (some e) (UpO C (qoSome ta)):=QO.mk (po_some h) fun p σ F H R rs ht=>up1 rs ht fun e1 p1 v1 F1 H1 rs1 s1 sh er1 ⟨i,h1,q⟩=>⟨i,ev_int er1 h1,p1,F1,rs1,s1,sh,q⟩
def nSl (ta:TQ) (tl th:TOQ):TN:=fun p Q=>ta p fun e1 p1=>tl p1 fun lo p2=>th p2 fun hi p3=>∃ds,seqL (lk p3 e1)=some ds/\Q (.ro (cut ds lo hi)) p3
theorem n_sl {lo hi:Option Expr} {tl th:TOQ} {p2:Pos} (hK:X.K=C.K) (he:PE X e (Up C ta)) (hl:PO X lo (UpO C tl)) (hu:PO X hi (UpO C th)):PE X (.Subscript e (.Slice lo hi none p2) pos) (UpN C (nSl ta tl th)):=
 QN.mk (pe_slice (sl_listK hK) he hl hu) fun p σ F H R rs ht=>up1 rs ht fun e1 p1 v1 F1 H1 rs1 s1 sh1 er1 q1=>by
  refine ⟨p1,F1,_,rs1,q1,fun lo H2 ⟨p2,F2,rs2,s2,sh2,q2⟩=>?_⟩
  refine ⟨p2,F2,_,rs2,q2,fun hi H3 ⟨p3,F3,rs3,s3,sh3,ds,h1,q3⟩=>?_⟩
  obtain ⟨a1,vs,rfl,g,r⟩:=ev_sq rs3 (er1.mono (s2.trans s3) (sh2.trans sh3)) h1
  exact ⟨a1,vs,rfl,g,fun q hq=>fin_new rs3 (s1.trans (s2.trans s3)) (sh1.trans (sh2.trans sh3)) hq (r.cut lo hi) q3⟩
def nRev (ta:TQ):TN:=fun p Q=>ta p fun e1 p1=>∃ds,lk p1 e1=.lst ds/\Q (.ro ds.reverse) p1
theorem n_rev {p1 p2 p3:Pos} {j} (hK:X.K=C.K) (he:PE X e (Up C ta)):PE X (.Subscript e (.Slice none none (some (.UnaryOp .USub (.Constant (.int 1) j p1) p2)) p3) pos) (UpN C (nRev ta)):=
 QN.mk (pe_revK hK he) fun p σ F H R rs ht=>up1 rs ht fun e1 p1 v1 F1 H1 rs1 s1 sh er1 ⟨ds,h1,q⟩=>by
  obtain ⟨a1,vs,rfl,g,r⟩:=ev_lst rs1 er1 h1
  exact ⟨a1,vs,rfl,.of g,fun q' hq=>fin_new rs1 s1 sh hq r.reverse q⟩
def nCat (ta tb:TQ):TN:=fun p Q=>ta p fun e1 p1=>tb p1 fun e2 p2=>∃xs ys,lk p2 e1=.lst xs/\lk p2 e2=.lst ys/\xs.length+ys.length<=100000/\Q (.ro (xs++ys)) p2
theorem n_cat (ha:PE X a (Up C ta)) (hb:PE X b (Up C tb)):PE X (.BinOp a .Add b pos) (UpN C (nCat ta tb)):=
 QN.mk (pe_op op_cat ha hb) fun p σ F H R rs ht=>up2 rs ht fun e1 e2 p1 v1 v2 F1 H1 rs1 s1 sh er1 er2 ⟨xs,ys,h1,h2,hz,q⟩=>by
  obtain ⟨a1,vs1,rfl,g1,r1⟩:=ev_lst rs1 er1 h1
  obtain ⟨a2,vs2,rfl,g2,r2⟩:=ev_lst rs1 er2 h2
  exact ⟨a1,a2,vs1,vs2,rfl,rfl,g1,g2,line_of (by rw [<-r1.length,<-r2.length];exact hz),fun q' hq=>fin_new rs1 s1 sh hq (r1.append r2) q⟩
variable {es:List Expr} {tas:TAQ} {x:Str} {ps:Pos}
def qLen (ta:TAQ):TQ:=fun p Q=>ta p fun es p1=>∃e ds,es=[e]/\seqOf (lk p1 e)=some ds/\Q (.fz (.int ds.length)) p1
theorem evs1 {es:List Ev} {e:Ev} {vs:List V} (h:EvRs C.K p σ F es vs) (z:es=[e]):∃v,vs=[v]/\EvR C.K p σ F e v:=by
 subst z
 cases h with
 | cons h t=>cases t;exact ⟨_,rfl,h⟩
theorem evs2 {es:List Ev} {e f:Ev} {vs:List V} (h:EvRs C.K p σ F es vs) (z:es=[e,f]):∃v w,vs=[v,w]/\EvR C.K p σ F e v/\EvR C.K p σ F f w:=by
 subst z
 cases h with
 | cons h t=>
  cases t with
  | cons h' t=>cases t;exact ⟨_,_,rfl,h,h'⟩
theorem cb_len (hK:X.K=C.K) (hg:Gl X "len") (hm:X.mg "len"=none) (ha:PA X [e] (UpA C tas)) (he:starEach [e] X.env=(false,eval e X.env)::starEach [] X.env:=by rfl):PE X (.Call (.Name "len" ps) [e] [] pos) (Up C (qLen tas)):=
 QE.mk (pe_callB (call_lenK hK) hg hm PySem.boot_len ha (he:=he)) fun p σ F H R rs ht=>upA1 rs ht fun es1 p1 vs1 F1 H1 rs1 s1 sh er1 ⟨e1,ds,h1,h2,q⟩=>by
  obtain ⟨v,rfl,er⟩:=evs1 er1 h1
  obtain ⟨a1,vs,rfl,g,r⟩:=ev_seq rs1 er h2
  exact ⟨a1,vs,rfl,g,fin_ev rs1 s1 sh (by rw [<-r.length];exact .int _) q⟩
def toI:D->Option Int
 | .int i=>some i
 | .bl b=>some (if b then 1 else 0)
 | _=>none
def qToI (ta:TAQ):TQ:=fun p Q=>ta p fun es p1=>∃e i,es=[e]/\toI (lk p1 e)=some i/\Q (.fz (.int i)) p1
theorem cb_int (hg:Gl X "int") (hm:X.mg "int"=none) (ha:PA X [e] (UpA C tas)) (he:starEach [e] X.env=(false,eval e X.env)::starEach [] X.env:=by rfl):PE X (.Call (.Name "int" ps) [e] [] pos) (Up C (qToI tas)):=
 QE.mk (pe_callTy call_int1 hg hm (by kernel_rfl) ha (he:=he)) fun p σ F H R rs ht=>upA1 rs ht fun es1 p1 vs1 F1 H1 rs1 s1 sh er1 ⟨e1,i,h1,h2,q⟩=>by
  obtain ⟨v,rfl,er⟩:=evs1 er1 h1
  cases e2:lk p1 e1 with
  | int j=>rw [e2] at h2;cases h2;exact .inl ⟨i,by rw [ev_int er e2],fin_ev rs1 s1 sh (.int _) q⟩
  | bl k=>rw [e2] at h2;cases h2;exact .inr ⟨k,by rw [ev_bl er e2],fin_ev rs1 s1 sh (.int _) q⟩
  | _=>rw [e2] at h2;cases h2
def isTy (T:String):D->Option Bool
 | .int _=>some (T == "int")
 | .bl _=>some (T == "bool" || T == "int")
 | .lst _=>some (T == "list")
 | .tup _=>some (T == "tuple")
 | .str _=>some (T == "str")
 | .non=>some false
 | .dic _ _=>some false
 | .exb=>some false
 | _=>none
def tyName (T:String):Prop:=T="int"\/T="bool"\/T="list"\/T="tuple"\/T="str"
theorem isTy_ok {T:String} {e1:Ev} {v:V} {k:Bool} (hT:tyName T) (rs:RS C p σ F H) (er:EvR C.K p σ F e1 v) (h:isTy T (lk p e1)=some k):∃t,TyX C.K H v t/\PySem.W.kitOne C.K t (.type T)=some k:=by
 cases e:lk p e1 with
 | int i=>
  rw [e] at h;cases h
  rw [ev_int er e]
  rcases hT with rfl|rfl|rfl|rfl|rfl<;>exact ⟨_,.inl (.int _),by rfl⟩
 | bl i=>
  rw [e] at h;cases h
  rw [ev_bl er e]
  rcases hT with rfl|rfl|rfl|rfl|rfl<;>exact ⟨_,.inl (.bl _),by rfl⟩
 | lst xs=>
  rw [e] at h;cases h
  obtain ⟨a1,vs,rfl,g,r⟩:=ev_lst rs er e
  rcases hT with rfl|rfl|rfl|rfl|rfl<;>exact ⟨_,.inl (.lst g),by rfl⟩
 | tup xs=>
  rw [e] at h;cases h
  obtain ⟨a1,vs,rfl,g,r⟩:=ev_tup rs er e
  rcases hT with rfl|rfl|rfl|rfl|rfl<;>exact ⟨_,.inl (.tup g),by rfl⟩
 | str x=>
  rw [e] at h;cases h
  rw [ev_str er e]
  rcases hT with rfl|rfl|rfl|rfl|rfl<;>exact ⟨_,.inl (.str _),by rfl⟩
 | non=>
  rw [e] at h;cases h
  rw [ev_non er e]
  rcases hT with rfl|rfl|rfl|rfl|rfl<;>exact ⟨_,.inl (.non),by rfl⟩
 | dic ks ds=>
  rw [e] at h;cases h
  obtain ⟨a1,vs,rfl,g,l,r⟩:=ev_dic rs er e
  rcases hT with rfl|rfl|rfl|rfl|rfl<;>exact ⟨_,.inl (.dK g),by rfl⟩
 | exb=>
  rw [e] at h;cases h
  obtain ⟨a1,rfl,g⟩:=ev_exb rs er e
  rcases hT with rfl|rfl|rfl|rfl|rfl<;>exact ⟨_,.inr ⟨a1,a1,rfl,.inr ⟨g,rfl⟩⟩,by rfl⟩
 | _=>rw [e] at h;cases h
def qIsi (T:String) (ta:TAQ):TQ:=fun p Q=>ta p fun es p1=>∃e f k,es=[e,f]/\lk p1 f=.atom (.ty T)/\isTy T (lk p1 e)=some k/\Q (.fz (.bl k)) p1
theorem cb_isi {T:String} (hK:X.K=C.K) (hT:tyName T) (hg:Gl X "isinstance") (hm:X.mg "isinstance"=none) (ha:PA X [a,b] (UpA C tas)) (he:starEach [a,b] X.env=(false,eval a X.env)::starEach [b] X.env:=by rfl) (hpl:(backTo pos (starEach [b] X.env)).any (·.1)=false:=by rfl) :
  PE X (.Call (.Name "isinstance" ps) [a,b] [] pos) (Up C (qIsi T tas)):=
 QE.mk (pe_callB (call_isX hK) hg hm (by kernel_rfl) ha (he:=he) (hpl:=hpl)) fun p σ F H R rs ht=>upA1 rs ht fun es1 p1 vs1 F1 H1 rs1 s1 sh er1 ⟨e1,e2,k,h0,h1,h2,q⟩=>by
  obtain ⟨v,w,rfl,er,er'⟩:=evs2 er1 h0
  obtain ⟨t,ty,ek⟩:=isTy_ok hT rs1 er h2
  exact ⟨v,w,.type T,t,k,rfl,by rw [ev_atom er' h1];exact fun u h=>h,ty,ek,fin_ev rs1 s1 sh (.bl _) q⟩
theorem mut_at {i:Nat} {xs:List D} (rs:RS C p σ F H) (h:mutL p i=some xs):∃s a vs,p[i]? = some (some s)/\s.mu=true/\σ[i]? = some (some (.ref a))/\H a=some (.lst vs)/\RepL C.K F xs vs/\∀ys,putL p i ys=p.set i (some (s.put ys)):=by
 unfold mutL at h
 split at h
 ·rename_i ys e
  cases h
  obtain ⟨v,e1,a,vs,rfl,z1,z2,z3,z4⟩:=rs.sl i _ e
  exact ⟨_,a,vs,e,rfl,e1,z3,z4,fun ys=>by unfold putL;rw [e]⟩
 ·rename_i ys e
  cases h
  obtain ⟨v,e1,a,vs,rfl,z1,z2,z3,z4⟩:=rs.sl i _ e
  exact ⟨_,a,vs,e,rfl,e1,z3,z4,fun ys=>by unfold putL;rw [e]⟩
 ·cases h
theorem RS.put' {i:Nat} {xs ys:List D} {us:List V} {a:Addr} (rs:RS C p σ F H) (h:mutL p i=some xs) (ha:σ[i]? = some (some (.ref a))) (r:RepL C.K F ys us):RS C (putL p i ys) σ F (upd H a (.lst us))/\Shp p (putL p i ys):=by
 obtain ⟨s,a',vs,h1,h2,h3,h4,h5,h6⟩:=mut_at rs h
 rw [ha] at h3;cases h3
 rw [h6]
 exact rs.write h1 h2 ha r
theorem mut_var {i:Nat} {xs:List D} {Q:V->Hp->Prop} (rs:RS C p σ F H) (h:mutL p i=some xs) (k:∀a,σ[i]? = some (some (.ref a))->tyV C.K "list" (.ref a) H/\Q (.ref a) H):tVar i σ H fun x H1=>tyV C.K "list" x H1/\Q x H1:=by
 obtain ⟨s,a,vs,h1,h2,h3,h4,h5,h6⟩:=mut_at rs h
 exact ⟨.ref a,h3,k a h3⟩
theorem mut_ty {i:Nat} {xs:List D} {a:Addr} (rs:RS C p σ F H) (h:mutL p i=some xs) (ha:σ[i]? = some (some (.ref a))):tyV C.K "list" (.ref a) H:=by
 obtain ⟨s,a',vs,h1,h2,h3,h4,h5,h6⟩:=mut_at rs h
 rw [ha] at h3;cases h3
 exact .inl ⟨rfl,vs,.of h4⟩
def qApp (i:Nat) (ta:TAQ):TQ:=fun p Q=>(mutL p i).isSome=true/\ta p fun es p2=>∃x xs,es=[.fz x]/\mutL p2 i=some xs/\xs.length<100000/\Q (.fz .non) (putL p2 i (xs++[x]))
theorem m_append {o:Expr} {i:Nat} {apos:Pos} (hK:X.K=C.K) (ho:PE X o (tVar i)) (ha:PA X [e] (UpA C tas))
  (hbase:attributeBase o "append" X.env (eval o X.env)=eval o X.env:=by rfl)
  (hfew:((backTo pos (starEach [e] X.env)).all (fun x=>!x.1) && (backToKw pos (keywordEach [] X.env)).all (fun x=>x.1.isSome)
   && decide ([e].length+([]:List Keyword).length+(if ([]:List Keyword).isEmpty then 0 else 1)<30))=true:=by rfl)
  (hline:(apos.endLine == pos.line)=true:=by rfl) (hs:starEach [e] X.env=(false,eval e X.env)::starEach [] X.env:=by rfl):PE X (.Call (.Attribute o "append" apos) [e] [] pos) (Up C (qApp i tas)):=by
 refine QE.mk (pe_bm PySem.F.plainAttrs_list PySem.F.slot_list_append PySem.F.type_list_append mt_append ho ha hbase hfew hline hs rfl) fun p σ F H R rs ht=>?_
 obtain ⟨h0,ht⟩:=ht
 obtain ⟨xs0,h0⟩:=Option.isSome_iff_exists.mp h0
 rw [hK]
 refine mut_var rs h0 fun a1 hσ=>⟨mut_ty rs h0 hσ,upA1 rs ht fun es2 p2 vs2 F2 H2 rs2 s2 sh2 er2 ⟨x,xs,h2,h3,h4,q⟩=>?_⟩
 obtain ⟨v,rfl,er⟩:=evs1 er2 h2
 obtain ⟨s,a',vs,g1,g2,g3,g4,g5,g6⟩:=mut_at rs2 h3
 rw [hσ] at g3;cases g3
 obtain ⟨rs3,sh3⟩:=rs2.put' h3 hσ (g5.append (.cons er .nil))
 exact ⟨a1,vs,v,rfl,rfl,g4,by rw [<-g5.length];exact Nat.lt_of_lt_of_le h4 (by decide),fin_ev rs3 s2 (sh2.trans sh3) .non q⟩
end
structure PEnds where
 nx:PSt->Prop
 rt:Rt->PSt->Prop
 bk:PSt->Prop:=fun _=>False
 ct:PSt->Prop:=fun _=>False
abbrev TSQ:=PEnds->PSt->Prop
def PEnds.dn (C:Pc) (F0:Hp) (E:PEnds):Ends where
 nx:=fun σ H=>∃p F,RS C p σ F H/\Same F0 F/\E.nx p
 rt:=fun v H=>∃r p σ F,RS C p σ F H/\Same F0 F/\RtR C p σ F H r v/\E.rt r p
 bk:=fun σ H=>∃p F,RS C p σ F H/\Same F0 F/\E.bk p
 ct:=fun σ H=>∃p F,RS C p σ F H/\Same F0 F/\E.ct p
structure Ends.Le (A B:Ends):Prop where
 nx:∀σ H,A.nx σ H->B.nx σ H
 rt:∀v H,A.rt v H->B.rt v H
 bk:∀σ H,A.bk σ H->B.bk σ H
 ct:∀σ H,A.ct σ H->B.ct σ H
theorem dn_le {C:Pc} {F F1:Hp} {E:PEnds} (s:Same F F1):(E.dn C F1).Le (E.dn C F):=⟨fun _ _ ⟨p,G,a,b,c⟩=>⟨p,G,a,s.trans b,c⟩,fun _ _ ⟨r,p,σ,G,a,b,c⟩=>⟨r,p,σ,G,a,s.trans b,c⟩,fun _ _ ⟨p,G,a,b,c⟩=>⟨p,G,a,s.trans b,c⟩,fun _ _ ⟨p,G,a,b,c⟩=>⟨p,G,a,s.trans b,c⟩⟩
def UpS (C:Pc) (t:TSQ):TS:=fun De σ H=>∃p F E,RS C p σ F H/\t E p/\(E.dn C F).Le De
def nbr (p:PSt) (i:Nat):Bool:=match p[i]? with
 | some (some (.bor _))=>false
 | _=>true
section
variable {X:Cx} {C:Pc} {a b c e:Expr} {ta tb tc:TQ} {pos:Pos} {K:PySem.W.Frag} {p:PSt} {σ:St} {F H:Hp} {st:Stmt} {rest:List Stmt} {t u:TSQ}
theorem SP.le {pins:List (Addr × Obj)} {A B:Ends} {f:Flow} {s':Shared} (l:Ends.Le A B) (h:SP X pins A f s'):SP X pins B f s':=by
 cases f with
 | next=>obtain ⟨σ',H',I,q⟩:=h;exact ⟨σ',H',I,l.nx _ _ q⟩
 | brk=>obtain ⟨σ',H',I,q⟩:=h;exact ⟨σ',H',I,l.bk _ _ q⟩
 | cont=>obtain ⟨σ',H',I,q⟩:=h;exact ⟨σ',H',I,l.ct _ _ q⟩
 | ret u=>obtain ⟨v,σ',H',I,r,q⟩:=h;exact ⟨v,σ',H',I,r,l.rt _ _ q⟩
theorem QS.mk {t:TS} {t':TSQ} (h:PS X st t) (hi:∀p σ F H E,RS C p σ F H->t' E p->t (E.dn C F) σ H):PS X st (UpS C t'):=fun pins s σ H De I ⟨p,F,E,rs,ht,l⟩=>
 thn (h pins s σ H _ I (hi p σ F H E rs ht)) fun _ _ q=>q.le l
theorem QSs.mk {sts:List Stmt} {t:TS} {t':TSQ} (h:PSs X sts t) (hi:∀p σ F H E,RS C p σ F H->t' E p->t (E.dn C F) σ H):PSs X sts (UpS C t'):=fun pins s σ H De I ⟨p,F,E,rs,ht,l⟩=>
 thn (h pins s σ H _ I (hi p σ F H E rs ht)) fun _ _ q=>q.le l
def qNext:TSQ:=fun E p=>E.nx p
def qSeq (t u:TSQ):TSQ:=fun E p=>t { E with nx:=u E } p
theorem s_nil:PSs X [] (UpS C qNext):=QSs.mk pss_nil fun p σ F H E rs q=>⟨p,F,rs,.refl _,q⟩
theorem s_cons (h1:PS X st (UpS C t)) (h2:PSs X rest (UpS C u)):PSs X (st::rest) (UpS C (qSeq t u)):=
 QSs.mk (pss_cons h1 h2) fun p σ F H E rs q=>⟨p,F,_,rs,q,⟨fun σ1 H1 ⟨p1,F1,rs1,s1,q1⟩=>⟨p1,F1,E,rs1,q1,dn_le s1⟩,fun _ _ h=>h,fun _ _ h=>h,fun _ _ h=>h⟩⟩
theorem s_one (h1:PS X st (UpS C t)):PSs X [st] (UpS C t):=pss_one h1
def qDrop (t:TQ):TSQ:=fun E p=>t p fun _ p1=>E.nx p1
theorem s_expr (he:PE X e (Up C ta)) (hs:swapsWith e none pos.line X.env=pure false:=by rfl):PS X (.Expr e pos) (UpS C (qDrop ta)):=
 QS.mk (ps_expr he hs) fun p σ F H E rs ht=>up1 rs ht fun e1 p1 v1 F1 H1 rs1 s1 sh er1 q=>⟨p1,F1,rs1,s1,q⟩
def qRet (t:TN):TSQ:=fun E p=>t p E.rt
theorem s_ret {t:TN} (he:PE X e (UpN C t)):PS X (.Return (some e) pos) (UpS C (qRet t)):=
 QS.mk (ps_ret he) fun p σ F H E rs ht=>upN1 rs ht fun r p1 v1 F1 H1 rs1 s1 sh rr q=>⟨r,p1,σ,F1,rs1,s1,rr,q⟩
def qIfS (c:TTQ) (t u:TSQ):TSQ:=fun E p=>c p fun b p1=>if b=true then t E p1 else u E p1
theorem s_if {c:Expr} {a b:List Stmt} {tc:TTQ} (hc:PT X c (UpT C tc)) (ha:PSs X a (UpS C t)) (hb:PSs X b (UpS C u)):PS X (.If c a b pos) (UpS C (qIfS tc t u)):=
 QS.mk (ps_if hc ha hb) fun p σ F H E rs ht=>upT1 rs ht fun k p1 F1 H1 rs1 s1 sh q=>ite_imp (fun q=>⟨p1,F1,E,rs1,q,dn_le s1⟩) (fun q=>⟨p1,F1,E,rs1,q,dn_le s1⟩) q
def qNever:TSQ:=fun _ _=>False
theorem s_never:PS X st (UpS C qNever):=fun _ _ _ _ _ _ ⟨_,_,_,_,h,_⟩=>h.elim
theorem RS.clear {i:Nat} (rs:RS C p σ F H) (h:nbr p i=true):RS C (p.set i none) σ F H:=by
 refine ⟨rs.sub,rs.ext,rs.new,rs.keep,rs.grow,by rw [List.length_set];exact rs.len,fun j s e=>?_,fun j k s s' x hjk e1 m1 e2 m2 x1 x2=>?_,fun q hq=>?_⟩
 ·by_cases hj:i=j
  ·subst hj
   rw [List.getElem?_set] at e
   simp at e
  ·rw [List.getElem?_set_ne hj] at e;exact rs.sl j s e
 ·have back:∀(j:Nat) (s:Sl),(p.set i none)[j]? = some (some s)->p[j]? = some (some s):=fun j s e=>by
   by_cases hj:i=j
   ·subst hj;rw [List.getElem?_set] at e;simp at e
   ·rw [List.getElem?_set_ne hj] at e;exact e
  exact rs.apart j k s s' x hjk (back _ _ e1) m1 (back _ _ e2) m2 x1 x2
 ·obtain ⟨z1,xs,z2⟩:=rs.pin q hq
  refine ⟨z1,xs,?_⟩
  by_cases hj:i=q.1
  ·rw [hj] at h
   unfold nbr at h
   rw [z2] at h;cases h
  ·rw [List.getElem?_set_ne hj];exact z2
theorem RS.setD {i:Nat} {x:D} {v:V} (rs:RS C p σ F H) (h:nbr p i=true) (r:Rep C.K F x v):RS C (p.set i (some (.d x))) (σ.set i (some v)) F H:=by
 have ne:∀q∈C.bs,i≠q.1:=fun q hq z=>by
  obtain ⟨z1,xs,z2⟩:=rs.pin q hq
  rw [z] at h
  unfold nbr at h
  rw [z2] at h;cases h
 refine ⟨rs.sub,rs.ext,rs.new,rs.keep,rs.grow,by rw [List.length_set,List.length_set];exact rs.len,fun j s e=>?_,fun j k s s' y hjk e1 m1 e2 m2 x1 x2=>?_,fun q hq=>?_⟩
 ·by_cases hj:i=j
  ·subst hj
   have hi:i<p.length:=by
    have:=(List.getElem?_eq_some_iff.mp e).1
    rwa [List.length_set] at this
   rw [List.getElem?_set_self hi] at e
   cases e
   exact ⟨v,List.getElem?_set_self (by rw [<-rs.len];exact hi),r⟩
  ·rw [List.getElem?_set_ne hj] at e
   rw [List.getElem?_set_ne hj]
   exact rs.sl j s e
 ·have back:∀(j:Nat) (s:Sl),(p.set i (some (.d x)))[j]? = some (some s)->s.mu=true->i≠j/\p[j]? = some (some s):=fun j s e m=>by
   by_cases hj:i=j
   ·subst hj
    have hi:i<p.length:=by
     have:=(List.getElem?_eq_some_iff.mp e).1
     rwa [List.length_set] at this
    rw [List.getElem?_set_self hi] at e
    cases e;cases m
   ·rw [List.getElem?_set_ne hj] at e;exact ⟨hj,e⟩
  obtain ⟨n1,f1⟩:=back j s e1 m1
  obtain ⟨n2,f2⟩:=back k s' e2 m2
  rw [List.getElem?_set_ne n1] at x1
  rw [List.getElem?_set_ne n2] at x2
  exact rs.apart j k s s' y hjk f1 m1 f2 m2 x1 x2
 ·obtain ⟨z1,xs,z2⟩:=rs.pin q hq
  exact ⟨by rw [List.getElem?_set_ne (ne q hq)];exact z1,xs,by rw [List.getElem?_set_ne (ne q hq)];exact z2⟩
theorem RS.setO {i:Nat} {xs:List D} {vs:List V} {x:Addr} (rs:RS C p σ F H) (h:nbr p i=true) (h1:F x=none) (h2:C.H0 x=none) (h3:H x=some (.lst vs)) (h4:RepL C.K F xs vs) (h5:Mine p σ x) :
  RS C (p.set i (some (.own xs))) (σ.set i (some (.ref x))) F H:=by
 have ne:∀q∈C.bs,i≠q.1:=fun q hq z=>by
  obtain ⟨z1,xs,z2⟩:=rs.pin q hq
  rw [z] at h
  unfold nbr at h
  rw [z2] at h;cases h
 have back:∀(j:Nat) (s:Sl),(p.set i (some (.own xs)))[j]? = some (some s)->(i=j/\i<p.length/\s=.own xs)\/(i≠j/\p[j]? = some (some s)):=fun j s e=>by
  by_cases hj:i=j
  ·subst hj
   have hi:i<p.length:=by
    have:=(List.getElem?_eq_some_iff.mp e).1
    rwa [List.length_set] at this
   rw [List.getElem?_set_self hi] at e
   cases e
   exact .inl ⟨rfl,hi,rfl⟩
  ·rw [List.getElem?_set_ne hj] at e;exact .inr ⟨hj,e⟩
 refine ⟨rs.sub,rs.ext,rs.new,rs.keep,rs.grow,by rw [List.length_set,List.length_set];exact rs.len,fun j s e=>?_,fun j k s s' y hjk e1 m1 e2 m2 x1 x2=>?_,fun q hq=>?_⟩
 ·rcases back j s e with ⟨rfl,hi,rfl⟩|⟨hj,e⟩
  ·exact ⟨.ref x,List.getElem?_set_self (by rw [<-rs.len];exact hi),x,vs,rfl,h1,h2,h3,h4⟩
  ·rw [List.getElem?_set_ne hj]
   exact rs.sl j s e
 ·rcases back j s e1 with ⟨rfl,hi,rfl⟩|⟨hj,f1⟩
  ·rcases back k s' e2 with ⟨rfl,_,rfl⟩|⟨hk,f2⟩
   ·exact hjk rfl
   ·rw [List.getElem?_set_self (by rw [<-rs.len];exact hi)] at x1
    cases x1
    rw [List.getElem?_set_ne hk] at x2
    exact h5 k s' f2 m2 x2
  ·rcases back k s' e2 with ⟨rfl,hi,rfl⟩|⟨hk,f2⟩
   ·rw [List.getElem?_set_self (by rw [<-rs.len];exact hi)] at x2
    cases x2
    rw [List.getElem?_set_ne hj] at x1
    exact h5 j s f1 m1 x1
   ·rw [List.getElem?_set_ne hj] at x1
    rw [List.getElem?_set_ne hk] at x2
    exact rs.apart j k s s' y hjk f1 m1 f2 m2 x1 x2
 ·obtain ⟨z1,ys,z2⟩:=rs.pin q hq
  exact ⟨by rw [List.getElem?_set_ne (ne q hq)];exact z1,ys,by rw [List.getElem?_set_ne (ne q hq)];exact z2⟩
def qRetO (i:Nat):TSQ:=fun E p=>∃xs,p[i]? = some (some (.own xs))/\E.rt (.ro xs) (p.set i none)
theorem s_retO {i:Nat} (he:PE X e (tVar i)):PS X (.Return (some e) pos) (UpS C (qRetO i)):=QS.mk (ps_ret he) fun p σ F H E rs ⟨xs,h,q⟩=>by
 obtain ⟨v,e1,x,vs,rfl,z1,z2,z3,z4⟩:=rs.sl i _ h
 have hn:nbr p i=true:=by unfold nbr;rw [h]
 have mi:Mine (p.set i none) σ x:=fun j s e m z=>by
  by_cases hj:i=j
  ·subst hj;rw [List.getElem?_set] at e;simp at e
  ·rw [List.getElem?_set_ne hj] at e
   exact rs.apart j i s _ x (Ne.symm hj) e m h rfl z e1
 exact ⟨.ref x,e1,.ro xs,_,σ,F,rs.clear hn,.refl _,⟨x,vs,rfl,z1,z2,z3,z4,mi⟩,q⟩
def qSet (i:Nat) (t:TQ):TSQ:=fun E p=>t p fun e p1=>∃x,e=.fz x/\nbr p1 i=true/\E.nx (p1.set i (some (.d x)))
theorem s_set {i:Nat} {x:Str} {pos':Pos} (hN:X.N.Nodup) (hi:X.N[i]? = some x) (hx:Loc X.env.scope x) (he:PE X e (Up C ta)) (hs:swapsWith e (some (.Name x pos')) pos.line X.env=pure false:=by rfl) (hf:X.fn x=true\/X.env.scope.names.lookup x=some .local:=by first|exact .inl rfl|exact .inr rfl|assumption) :
  PS X (.Assign [.Name x pos'] e pos) (UpS C (qSet i ta)):=
 QS.mk (ps_set hN hi hx he hs hf) fun p σ F H E rs ht=>up1 rs ht fun e1 p1 v1 F1 H1 rs1 s1 sh er1 ⟨y,hy,hn,q⟩=>⟨_,F1,rs1.setD hn (by subst hy;exact er1),s1,q⟩
def qSetN (i:Nat) (t:TN):TSQ:=fun E p=>t p fun r p1=>nbr p1 i=true/\E.nx (p1.set i (some r.sl))
theorem s_setN {i:Nat} {x:Str} {t:TN} {pos':Pos} (hN:X.N.Nodup) (hi:X.N[i]? = some x) (hx:Loc X.env.scope x) (he:PE X e (UpN C t)) (hs:swapsWith e (some (.Name x pos')) pos.line X.env=pure false:=by rfl) (hf:X.fn x=true\/X.env.scope.names.lookup x=some .local:=by first|exact .inl rfl|exact .inr rfl|assumption) :
  PS X (.Assign [.Name x pos'] e pos) (UpS C (qSetN i t)):=
 QS.mk (ps_set hN hi hx he hs hf) fun p σ F H E rs ht=>upN1 rs ht fun r p1 v1 F1 H1 rs1 s1 sh rr ⟨hn,q⟩=>by
  cases r with
  | rd y=>exact ⟨_,F1,rs1.setD hn rr,s1,q⟩
  | ro xs=>
   obtain ⟨x,vs,rfl,z1,z2,z3,z4,z5⟩:=rr
   exact ⟨_,F1,rs1.setO hn z1 z2 z3 z4 z5,s1,q⟩
def qSetI (i:Nat) (te tk:TQ):TSQ:=fun E p=>te p fun ev p1=>(mutL p1 i).isSome=true/\tk p1 fun kv p2=>∃x xs k j,ev=.fz x/\mutL p2 i=some xs/\lk p2 kv=.int k/\ixN xs.length k=some j/\E.nx (putL p2 i (xs.set j x))
theorem s_setI {i : Nat} {o k : Expr} {te tk : TQ} {pt : Pos} (he : PE X e (Up C te)) (ho : PE X o (tVar i)) (hk : PE X k (Up C tk))
    (ha : ∀ v, assign (.Subscript o k pt) X.env v = (do
      let ov ← holding [v] (eval o X.env)
      let iv ← holding [v, ov] (eval k X.env)
      standAt pt
      holding [v, ov, iv] (setItem ov iv v)
      release [v, ov, iv] []) := by intro _; rfl)
    (hs : swapsWithSole [.Subscript o k pt] e pos.line X.env = pure false := by rfl) (hw : swappedStores [.Subscript o k pt] e X.env = pure none := by rfl)
    (h1 : (assignEach [.Subscript o k pt] X.env).map (·.2) = [assign (.Subscript o k pt) X.env] := by rfl) :
    PS X (.Assign [.Subscript o k pt] e pos) (UpS C (qSetI i te tk)) :=
  QS.mk (ps_asg he (pg_sub ho hk set_list ha) hs hw h1) fun p σ F H E rs ht => up1 rs ht fun e1 p1 v1 F1 H1 rs1 s1 sh er1 ⟨h0, ht⟩ => by
    obtain ⟨xs0, h0⟩ := Option.isSome_iff_exists.mp h0
    obtain ⟨s, x, vs, g1, g2, g3, g4, g5, g6⟩ := mut_at rs1 h0
    refine ⟨.ref x, g3, up1 rs1 ht fun e2 p2 v2 F2 H2 rs2 s2 sh2 er2 ⟨y, xs, k, j, hy, hm, hk, hj, q⟩ => ?_⟩
    obtain ⟨s', x', vs', k1, k2, k3, k4, k5, k6⟩ := mut_at rs2 hm
    rw [g3] at k3; cases k3
    subst hy
    obtain ⟨rs3, sh3⟩ := rs2.put' hm g3 (RepL.set (Rep.mono s2 er1) j k5)
    exact ⟨x, vs', k, j, rfl, ev_int er2 hk, k4, by rw [← k5.length]; exact hj, _, F2, rs3, s1.trans s2, q⟩
end
abbrev TGQ:=D->PSt->(PSt->Prop)->Prop
def XG (C:Pc) (F:Hp) (R:PSt->Prop) (σ1:St) (H1:Hp):Prop:=∃p1 F1,RS C p1 σ1 F1 H1/\Same F F1/\R p1
def UpG (C:Pc) (g:TGQ):TG:=fun v σ H Q=>∃p F x R,RS C p σ F H/\Rep C.K F x v/\g x p R/\∀σ1 H1,XG C F R σ1 H1->Q σ1 H1
section
variable {X:Cx} {C:Pc} {a b c e:Expr} {ta tb tc:TQ} {pos:Pos} {K:PySem.W.Frag} {p:PSt} {σ:St} {F H:Hp} {st:Stmt} {rest:List Stmt} {t u:TSQ}
theorem QG.mk {tg:Expr} {g:TG} {g':TGQ} (h:PG X tg g) (hi:∀p σ F H x v R,RS C p σ F H->Rep C.K F x v->g' x p R->g v σ H (XG C F R)):PG X tg (UpG C g'):=fun pins s σ H v u Q I r ⟨p,F,x,R,rs,rx,hg,hq⟩=>
 thn (h pins s σ H v u _ I r (hi p σ F H x v R rs rx hg)) fun _ _ ⟨σ1,H1,I1,q1⟩=>⟨σ1,H1,I1,hq σ1 H1 q1⟩
def gqName (i:Nat):TGQ:=fun x p Q=>nbr p i=true/\Q (p.set i (some (.d x)))
theorem g_name {i:Nat} {x:Str} (hN:X.N.Nodup) (hi:X.N[i]? = some x) (hx:Loc X.env.scope x) (hf:X.fn x=true\/X.env.scope.names.lookup x=some .local:=by first|exact .inl rfl|exact .inr rfl|assumption):PG X (.Name x pos) (UpG C (gqName i)):=
 QG.mk (pg_name hN hi hx hf) fun p σ F H x v R rs rx ⟨hn,q⟩=>⟨_,F,rs.setD hn rx,.refl _,q⟩
structure JQ (K:PySem.W.Frag) (J:It) (n:Nat) (item:Nat->D) (F1:Hp):Prop where
 go:∀i F H,Same F H->Same F1 F->i<n->J.go i H
 yld:∀i F H x H',Same F H->Same F1 F->i<n->J.yld i H x H'->(H'=H/\Rep K F (item i) x)\/∃t xs vs,H t=none/\H'=upd H t (.tup vs)/\x=.ref t/\item i=.tup xs/\RepL K F xs vs
 stop:∀F H,Same F H->Same F1 F->J.stop n H
theorem JQ.out {J:It} {n:Nat} {item:Nat->D} {F1:Hp} {i:Nat} {x:V} {H':Hp} (jq:JQ C.K J n item F1) (rs:RS C p σ F H) (s:Same F1 F) (hi:i<n) (y:J.yld i H x H'):∃F',RS C p σ F' H'/\Same F F'/\Rep C.K F' (item i) x:=by
 rcases jq.yld i F H x H' rs.sub s hi y with ⟨rfl,r⟩|⟨t,xs,vs,h1,h2,h3,h4,h5⟩
 ·exact ⟨F,rs,.refl _,r⟩
 ·obtain ⟨z1,z2,z3⟩:=rs.free h1
  subst h2 h3
  rw [h4]
  exact ⟨_,rs.put h1,same_upd z1 _,.tup upd_same (h5.mono (same_upd z1 _))⟩
abbrev TIQ:=PSt->(Nat->(Nat->D)->PSt->Prop)->Prop
def XI (C:Pc) (p:PSt) (σ:St) (F:Hp) (R:Nat->(Nat->D)->PSt->Prop) (J:It) (H1:Hp):Prop:=∃n item p1 F1,RS C p1 σ F1 H1/\Same F F1/\Shp p p1/\JQ C.K J n item F1/\R n item p1
def UpI (C:Pc) (t:TIQ):TI:=fun σ H Q=>∃p F R,RS C p σ F H/\t p R/\∀J H1,XI C p σ F R J H1->Q J H1
theorem QI.mk {tg iter:Expr} {t:TI} {t':TIQ} (h:PI X tg iter t) (hi:∀p σ F H R,RS C p σ F H->t' p R->t σ H (XI C p σ F R)):PI X tg iter (UpI C t'):=fun pins s σ H Q I ⟨p,F,R,rs,ht,hq⟩=>
 thn (h pins s σ H _ I (hi p σ F H R rs ht)) fun _ _ h1=>thn h1 fun _ _ ⟨it,fp,tn,J,H',z1,z2,z3,z4,z5,z6⟩=>⟨it,fp,tn,J,H',z1,z2,z3,z4,z5,hq J H' z6⟩
theorem jq_rng (lo:Int) (n:Nat):JQ K (Itr lo n) n (fun i=>.int (lo+i)) F:=⟨fun i F H _ _ h=>h,fun i F H x H' _ _ _ ⟨h1,h2⟩=>by subst h1 h2;exact .inl ⟨rfl,.int _⟩,fun _ _ _ _=>Nat.le_refl _⟩
theorem getD_some {ds:List D} {i:Nat} (h:i<ds.length):ds[i]? = some (ds.getD i .non):=by
 rw [List.getD_eq_getElem?_getD,List.getElem?_eq_getElem h];rfl
theorem jq_lst {x:Addr} {vs:List V} {ds:List D} (h:F x=some (.lst vs)) (r:RepL K F ds vs):JQ K (Itl K x) ds.length (fun i=>ds.getD i .non) F:=by
 have sq:∀{F1 H:Hp},Same F1 H->Same F F1->SqL K H x vs:=fun rs s=>.of (rs _ _ (s _ _ h))
 refine ⟨fun i F1 H rs s hi=>?_,fun i F1 H v H' rs s hi y=>?_,fun F1 H rs s=>⟨vs,sq rs s,by rw [r.length];exact Nat.le_refl _⟩⟩
 ·obtain ⟨v,e1,_⟩:=r.get (getD_some hi)
  exact ⟨vs,v,sq rs s,e1⟩
 ·obtain ⟨e1,e2⟩:=y
  subst e1
  obtain ⟨w,e3,r3⟩:=r.get (getD_some hi)
  have:=e2 vs (sq rs s)
  rw [e3] at this;cases this
  exact .inl ⟨rfl,r3.mono s⟩
variable {tg:Expr} {tas:TAQ} {ps ps2:Pos}
def iqR1 (ta:TAQ):TIQ:=fun p Q=>ta p fun es p1=>∃e j,es=[e]/\lk p1 e=.int j/\-(2 ^ 62)<=j/\j<2 ^ 62/\Q j.toNat (fun i=>.int (0+i)) p1
theorem i_range1 (hg:Gl X "range") (hm:X.mg "range"=none) (ha:PA X [a] (UpA C tas)) (hs:starEach [a] X.env=[(false,eval a X.env)]:=by rfl):PI X tg (.Call (.Name "range" ps) [a] [] pos) (UpI C (iqR1 tas)):=
 QI.mk (pi_range1 hg hm ha hs) fun p σ F H R rs ht=>upA1 rs ht fun es1 p1 vs1 F1 H1 rs1 s1 sh er1 ⟨e1,j,h1,h2,h3,h4,q⟩=>by
  obtain ⟨v,rfl,er⟩:=evs1 er1 h1
  exact ⟨j,by rw [ev_int er h2],h3,h4,_,_,p1,F1,rs1,s1,sh,jq_rng 0 _,q⟩
def iqL (ta:TQ):TIQ:=fun p Q=>ta p fun e p1=>∃ds,e=.fz (.lst ds)/\Q ds.length (fun i=>ds.getD i .non) p1
theorem i_list (hK:X.K=C.K) (ha:PE X a (Up C ta)):PI X tg a (UpI C (iqL ta)):=
 QI.mk (pi_listK hK ha) fun p σ F H R rs ht=>up1 rs ht fun e1 p1 v1 F1 H1 rs1 s1 sh er1 ⟨ds,h1,q⟩=>by
  subst h1
  cases er1 with
  | lst q1 r1=>exact ⟨_,rfl,⟨_,.of (rs1.sub _ _ q1)⟩,_,_,p1,F1,rs1,s1,sh,jq_lst q1 r1,q⟩
def qFor (ti:TIQ) (g:TGQ) (tb:TSQ):TSQ:=fun E p=>ti p fun n item p1=>∃I:Nat->PSt->Prop,I 0 p1/\(∀i p2,i<n->I i p2->g (item i) p2 fun p3=>tb { E with nx:=I (i+1),ct:=I (i+1),bk:=E.nx } p3)/\∀p2,I n p2->E.nx p2
theorem s_for {iter:Expr} {body:List Stmt} {ti:TIQ} {g:TGQ} {tb:TSQ} (hp:PassesOwn (model X.prog X.w) X.A X.env X.xe) (hc:X.calm=true) (hi:PI X tg iter (UpI C ti)) (hg:PG X tg (UpG C g)) (hb:PSs X body (UpS C tb))
  (hs:∀x,foldedSetIterable iter X.env x=pure x:=by intro _;rfl):PS X (.For tg iter body [] pos) (UpS C (qFor ti g tb)):=
 QS.mk (ps_for hp hc hi hg hb hs) fun p σ F H E rs ht=>⟨p,F,_,rs,ht,fun J H1 ⟨n,item,p1,F1,rs1,s1,sh1,jq,I,i0,istep,iend⟩=>by
  refine ⟨fun i m σ H=>m=n - i/\i<=n/\∃p F,RS C p σ F H/\Same F1 F/\I i p,⟨n,by simp,Nat.zero_le _,p1,F1,rs1,.refl _,i0⟩,?_⟩
  rintro i m σ2 H2 ⟨rfl,hi,p2,F2,rs2,s2,i2⟩
  by_cases hlt:i<n
  ·refine .inr ⟨jq.go i F2 H2 rs2.sub s2 hlt,fun σ' H'=>∃p F,RS C p σ' F H'/\Same F1 F/\I (i+1) p,fun σ' H' h=>⟨n - (i+1),by omega,rfl,hlt,h⟩,fun x H' y=>?_⟩
   obtain ⟨F3,rs3,s3,r3⟩:=jq.out rs2 s2 hlt y
   refine ⟨p2,F3,item i,_,rs3,r3,istep i p2 hlt i2,fun σ4 H4 ⟨p4,F4,rs4,s4,q4⟩=>⟨p4,F4,_,rs4,q4,?_⟩⟩
   have s14:Same F1 F4:=s2.trans (s3.trans s4)
   exact ⟨fun _ _ ⟨p5,F5,a,b,c⟩=>⟨p5,F5,a,s14.trans b,c⟩,fun _ _ ⟨r,p5,σ5,F5,a,b,c⟩=>⟨r,p5,σ5,F5,a,s1.trans (s14.trans b),c⟩,fun _ _ ⟨p5,F5,a,b,c⟩=>⟨p5,F5,a,s1.trans (s14.trans b),c⟩,fun _ _ ⟨p5,F5,a,b,c⟩=>⟨p5,F5,a,s14.trans b,c⟩⟩
  ·have e:i=n:=by omega
   subst e
   exact .inl ⟨jq.stop F2 H2 rs2.sub s2,p2,F2,rs2,s1.trans s2,iend p2 i2⟩⟩
end
abbrev PSp:=List Sl->(Rt->List Sl->Prop)->Prop
def ArgR (K:PySem.W.Frag) (F H:Hp):Sl->V->Prop
 | .d x,v=>Rep K F x v
 | .own _,_=>False
 | .bor xs,v=>∃a vs,v=.ref a/\F a=none/\H a=some (.lst vs)/\RepL K F xs vs
structure ArgsR (K:PySem.W.Frag) (F H:Hp) (as:List Sl) (vs:List V):Prop where
 len:as.length=vs.length
 at_:∀(i:Nat) (s:Sl),as[i]? = some s->∃v,vs[i]? = some v/\ArgR K F H s v
 apart:∀(i j:Nat) (xs ys:List D) (a:Addr),i≠j->as[i]? = some (.bor xs)->as[j]? = some (.bor ys)->vs[i]? = some (.ref a)->vs[j]? = some (.ref a)->False
structure Post (K:PySem.W.Frag) (F H:Hp) (as:List Sl) (vs:List V) (r:Rt) (as':List Sl) (v:V) (F' H':Hp):Prop where
 ext:Same F F'
 sub:Same F' H'
 new:∀a o,F' a=some o->F a=some o\/H a=none\/∃xs,o=.tup xs
 keep:∀a o,H a=some o->(∀(i:Nat) (xs:List D),as[i]? = some (.bor xs)->vs[i]?≠some (.ref a))->H' a=some o
 grow:∀a,H a≠none->H' a≠none
 args:∀(i:Nat) (xs:List D),as[i]? = some (.bor xs)->∃ys a us,as'[i]? = some (.bor ys)/\vs[i]? = some (.ref a)/\F' a=none/\H' a=some (.lst us)/\RepL K F' ys us
 res:match r with
  | .rd x=>Rep K F' x v
  | .ro xs=>∃a us,v=.ref a/\F' a=none/\H a=none/\H' a=some (.lst us)/\RepL K F' xs us
def spOf (K:PySem.W.Frag) (S:PSp):Sp:=fun vs H Q _=>∃as F R,Same F H/\ArgsR K F H as vs/\S as R/\∀r as' v F' H',Post K F H as vs r as' v F' H'->R r as'->Q v H'
def argOf (p:PSt):Ev->Option Sl
 | .fz x=>some (.d x)
 | .ow i=>match mutL p i with
  | some xs=>some (.bor xs)
  | none=>none
def argsOf (p:PSt):List Ev->Option (List Sl)
 | []=>some []
 | e::r=>match argOf p e,argsOf p r with
  | some s,some ss=>some (s::ss)
  | _,_=>none
def owIx:List Ev->List Nat
 | []=>[]
 | .fz _::r=>owIx r
 | .ow i::r=>i::owIx r
def back:PSt->List Ev->List Sl->PSt
 | p,.ow i::es,.bor ys::as=>back (putL p i ys) es as
 | p,_::es,_::as=>back p es as
 | p,_,_=>p
theorem argsOf_get {p:PSt}:∀{es:List Ev} {as:List Sl},argsOf p es=some as->as.length=es.length/\∀(i:Nat) (e:Ev),es[i]? = some e->∃s,as[i]? = some s/\argOf p e=some s
 | [],as,h=>by cases h;exact ⟨rfl,fun i e z=>by simp at z⟩
 | e::r,as,h=>by
  unfold argsOf at h
  cases h1:argOf p e with
  | none=>rw [h1] at h;cases h
  | some s=>
   cases h2:argsOf p r with
   | none=>rw [h1,h2] at h;cases h
   | some ss=>
    rw [h1,h2] at h;cases h
    obtain ⟨l,g⟩:=argsOf_get h2
    refine ⟨by simp [l],fun i e' z=>?_⟩
    cases i with
    | zero=>simp at z;subst z;exact ⟨s,by simp,h1⟩
    | succ i=>exact (by simpa using g i e' (by simpa using z))
theorem putL_get {p:PSt} {i:Nat} {ys:List D} {k:Nat}:(putL p i ys)[k]? = (if k=i then (match p[k]? with|some (some s)=>some (some (s.put ys))|o=>o) else p[k]?):=by
 unfold putL
 by_cases hk:k=i
 ·subst hk
  rw [if_pos rfl]
  cases h:p[k]? with
  | none=>simp [h]
  | some o=>
   cases o with
   | none=>simp [h]
   | some s=>
    have hl:k<p.length:=(List.getElem?_eq_some_iff.mp h).1
    simp only []
    rw [List.getElem?_set_self hl]
 ·rw [if_neg hk]
  split
  ·rw [List.getElem?_set_ne (Ne.symm hk)]
  ·rfl
theorem putL_len {p:PSt} {i:Nat} {ys:List D}:(putL p i ys).length=p.length:=by
 unfold putL
 split
 ·exact List.length_set
 ·rfl
theorem back_len:∀{es:List Ev} {as:List Sl} {p:PSt},(back p es as).length=p.length
 | [],_,_=>by unfold back;rfl
 | .fz x::es,[],p=>by unfold back;rfl
 | .ow i::es,[],p=>by unfold back;rfl
 | .fz x::es,a::as,p=>by unfold back;exact back_len
 | .ow i::es,.bor ys::as,p=>by unfold back;rw [back_len,putL_len]
 | .ow i::es,.d y::as,p=>by unfold back;exact back_len
 | .ow i::es,.own y::as,p=>by unfold back;exact back_len
theorem mem_owIx:∀{es:List Ev} {k:Nat} {m:Nat},es[m]? = some (.ow k)->k∈owIx es
 | [],k,m,h=>by simp at h
 | .fz x::r,k,m,h=>by
  unfold owIx
  cases m with
  | zero=>simp at h
  | succ m=>exact mem_owIx (m:=m) (by simpa using h)
 | .ow i::r,k,m,h=>by
  unfold owIx
  cases m with
  | zero=>simp at h;subst h;exact List.mem_cons_self
  | succ m=>exact List.mem_cons_of_mem _ (mem_owIx (m:=m) (by simpa using h))
theorem back_get:∀{es:List Ev} {as:List Sl} {p:PSt} {k:Nat},(owIx es).Nodup->
  (∃(m:Nat) (ys:List D) (s:Sl),es[m]? = some (.ow k)/\as[m]? = some (.bor ys)/\p[k]? = some (some s)/\(back p es as)[k]? = some (some (s.put ys))) \/
  ((∀(m:Nat) (ys:List D) (s:Sl),es[m]? = some (.ow k)->as[m]? = some (.bor ys)->p[k]? = some (some s)->False)/\(back p es as)[k]? = p[k]?)
 | [],as,p,k,_=>.inr ⟨fun m ys s h=>by simp at h,by unfold back;rfl⟩
 | .fz x::es,[],p,k,_=>.inr ⟨fun m ys s _ h=>by simp at h,by unfold back;rfl⟩
 | .ow i::es,[],p,k,_=>.inr ⟨fun m ys s _ h=>by simp at h,by unfold back;rfl⟩
 | .fz x::es,a::as,p,k,nd=>by
  have e:back p (.fz x::es) (a::as)=back p es as:=by conv=>lhs;unfold back
  rw [e]
  rcases back_get (es:=es) (as:=as) (p:=p) (k:=k) nd with ⟨m,ys,s,h1,h2,h3,h4⟩|⟨h1,h2⟩
  ·exact .inl ⟨m+1,ys,s,by simpa using h1,by simpa using h2,h3,h4⟩
  ·refine .inr ⟨fun m ys s g1 g2 g3=>?_,h2⟩
   cases m with
   | zero=>simp at g1
   | succ m=>exact h1 m ys s (by simpa using g1) (by simpa using g2) g3
 | .ow i::es,.d y::as,p,k,nd=>by
  have e:back p (.ow i::es) (.d y::as)=back p es as:=by conv=>lhs;unfold back
  rw [e]
  have nd':(owIx es).Nodup:=by unfold owIx at nd;exact (List.nodup_cons.mp nd).2
  rcases back_get (es:=es) (as:=as) (p:=p) (k:=k) nd' with ⟨m,ys,s,h1,h2,h3,h4⟩|⟨h1,h2⟩
  ·exact .inl ⟨m+1,ys,s,by simpa using h1,by simpa using h2,h3,h4⟩
  ·refine .inr ⟨fun m ys s g1 g2 g3=>?_,h2⟩
   cases m with
   | zero=>simp at g2
   | succ m=>exact h1 m ys s (by simpa using g1) (by simpa using g2) g3
 | .ow i::es,.own y::as,p,k,nd=>by
  have e:back p (.ow i::es) (.own y::as)=back p es as:=by conv=>lhs;unfold back
  rw [e]
  have nd':(owIx es).Nodup:=by unfold owIx at nd;exact (List.nodup_cons.mp nd).2
  rcases back_get (es:=es) (as:=as) (p:=p) (k:=k) nd' with ⟨m,ys,s,h1,h2,h3,h4⟩|⟨h1,h2⟩
  ·exact .inl ⟨m+1,ys,s,by simpa using h1,by simpa using h2,h3,h4⟩
  ·refine .inr ⟨fun m ys s g1 g2 g3=>?_,h2⟩
   cases m with
   | zero=>simp at g2
   | succ m=>exact h1 m ys s (by simpa using g1) (by simpa using g2) g3
 | .ow i::es,.bor zs::as,p,k,nd=>by
  have e:back p (.ow i::es) (.bor zs::as)=back (putL p i zs) es as:=by conv=>lhs;unfold back
  rw [e]
  have nd0:i ∉ owIx es/\(owIx es).Nodup:=by unfold owIx at nd;exact List.nodup_cons.mp nd
  by_cases hk:k=i
  ·subst hk
   rcases back_get (es:=es) (as:=as) (p:=putL p k zs) (k:=k) nd0.2 with ⟨m,ys,s,h1,_⟩|⟨h1,h2⟩
   ·exact absurd (mem_owIx h1) nd0.1
   ·rw [h2,putL_get,if_pos rfl]
    cases h:p[k]? with
    | none=>exact .inr ⟨fun m ys s _ _ g=>(by cases g),rfl⟩
    | some o=>
     cases o with
     | none=>exact .inr ⟨fun m ys s _ _ g=>(by cases g),rfl⟩
     | some s=>exact .inl ⟨0,zs,s,by simp,by simp,rfl,rfl⟩
  ·have ep:(putL p i zs)[k]? = p[k]?:=by rw [putL_get,if_neg hk]
   rcases back_get (es:=es) (as:=as) (p:=putL p i zs) (k:=k) nd0.2 with ⟨m,ys,s,h1,h2,h3,h4⟩|⟨h1,h2⟩
   ·exact .inl ⟨m+1,ys,s,by simpa using h1,by simpa using h2,by rw [<-ep];exact h3,h4⟩
   ·refine .inr ⟨fun m ys s g1 g2 g3=>?_,by rw [h2,ep]⟩
    cases m with
    | zero=>simp at g1;exact hk g1.symm
    | succ m=>exact h1 m ys s (by simpa using g1) (by simpa using g2) (by rw [ep];exact g3)
theorem evs_get {K:PySem.W.Frag} {p:PSt} {σ:St} {F:Hp}:∀{es:List Ev} {vs:List V},EvRs K p σ F es vs->es.length=vs.length/\∀(i:Nat) (e:Ev),es[i]? = some e->∃v,vs[i]? = some v/\EvR K p σ F e v
 | _,_,.nil=>⟨rfl,fun i e z=>by simp at z⟩
 | _,_,.cons h t=>by
  obtain ⟨l,g⟩:=evs_get t
  refine ⟨by simp [l],fun i e' z=>?_⟩
  cases i with
  | zero=>simp at z;subst z;exact ⟨_,by simp,h⟩
  | succ i=>exact (by simpa using g i e' (by simpa using z))
section
variable {X:Cx} {C:Pc} {a b c e:Expr} {ta tb tc:TQ} {pos:Pos} {K:PySem.W.Frag} {p:PSt} {σ:St} {F H:Hp} {st:Stmt} {es:List Expr} {tas:TAQ}
theorem args_ok {es:List Ev} {vs:List V} {as:List Sl} (rs:RS C p σ F H) (er:EvRs C.K p σ F es vs) (ha:argsOf p es=some as) (nd:(owIx es).Nodup):ArgsR C.K F H as vs /\
  ∀(m:Nat) (xs:List D),as[m]? = some (.bor xs)->∃(k:Nat) (s:Sl) (a:Addr),es[m]? = some (.ow k)/\p[k]? = some (some s)/\s.mu=true/\σ[k]? = some (some (.ref a))/\vs[m]? = some (.ref a):=by
 obtain ⟨l1,g1⟩:=argsOf_get ha
 obtain ⟨l2,g2⟩:=evs_get er
 have low:∀(m:Nat) (xs:List D),as[m]? = some (.bor xs)->∃(k:Nat) (s:Sl) (a:Addr) (vs':List V),es[m]? = some (.ow k)/\p[k]? = some (some s)/\s.mu=true/\σ[k]? = some (some (.ref a))/\vs[m]? = some (.ref a)/\F a=none/\H a=some (.lst vs')/\RepL C.K F xs vs':=fun m xs h=>by
  have hm:m<es.length:=by rw [<-l1];exact (List.getElem?_eq_some_iff.mp h).1
  obtain ⟨s0,e1,e2⟩:=g1 m _ (List.getElem?_eq_getElem hm)
  rw [h] at e1;cases e1
  cases he:es[m] with
  | fz x=>rw [he] at e2;cases e2
  | ow k=>
   rw [he] at e2
   have hmut:mutL p k=some xs:=by
    unfold argOf at e2
    cases hq:mutL p k with
    | none=>simp [hq] at e2
    | some ys=>simp [hq] at e2;rw [e2]
   obtain ⟨s,a,vs',h1,h2,h3,h4,h5,h6⟩:=mut_at rs hmut
   obtain ⟨v,e3,er3⟩:=g2 m _ (List.getElem?_eq_getElem hm)
   rw [he] at er3
   have:=er3.2
   rw [h3] at this;cases this
   have fa:F a=none:=by
    obtain ⟨w,z1,z2⟩:=rs.sl k s h1
    rw [h3] at z1;cases z1
    cases s with
    | d x=>cases h2
    | own xs=>obtain ⟨_,_,z,y,_⟩:=z2;cases z;exact y
    | bor xs=>obtain ⟨_,_,z,y,_⟩:=z2;cases z;exact y
   exact ⟨k,s,a,vs',by rw [List.getElem?_eq_getElem hm,he],h1,h2,h3,e3,fa,h4,h5⟩
 refine ⟨⟨by rw [l1,l2],fun i s h=>?_,fun i j xs ys x hij h1 h2 h3 h4=>?_⟩,fun m xs h=>?_⟩
 ·have hm:i<es.length:=by rw [<-l1];exact (List.getElem?_eq_some_iff.mp h).1
  obtain ⟨s0,e1,e2⟩:=g1 i _ (List.getElem?_eq_getElem hm)
  rw [h] at e1;cases e1
  obtain ⟨v,e3,er3⟩:=g2 i _ (List.getElem?_eq_getElem hm)
  cases s with
  | d x=>
   refine ⟨v,e3,?_⟩
   cases he:es[i] with
   | fz y=>rw [he] at e2;rw [he] at er3;cases e2;exact er3
   | ow k=>
    rw [he] at e2
    unfold argOf at e2
    cases hq:mutL p k with
    | none=>simp [hq] at e2
    | some ys=>simp [hq] at e2
  | own xs=>
   cases he:es[i] with
   | fz y=>simp [he,argOf] at e2
   | ow k=>
    rw [he] at e2
    unfold argOf at e2
    cases hq:mutL p k with
    | none=>simp [hq] at e2
    | some ys=>simp [hq] at e2
  | bor xs=>
   obtain ⟨k,s,x,vs',z1,z2,z3,z4,z5,z6,z7,z8⟩:=low i xs h
   exact ⟨_,z5,x,vs',rfl,z6,z7,z8⟩
 ·obtain ⟨k,s,x1,vs',z1,z2,z3,z4,z5,z6,z7,z8⟩:=low i xs h1
  obtain ⟨k',s',x2,vs'',y1,y2,y3,y4,y5,y6,y7,y8⟩:=low j ys h2
  rw [h3] at z5;cases z5
  rw [h4] at y5;cases y5
  by_cases hk:k=k'
  ·subst hk
   -- the same slot twice
   have nodup_two:∀{l:List Ev} {i j k:Nat},(owIx l).Nodup->l[i]? = some (.ow k)->l[j]? = some (.ow k)->i=j:=by
    intro l
    induction l with
    | nil=>intro i j k _ h;simp at h
    | cons e r ih=>
     intro i j k nd h h'
     cases e with
     | fz x=>
      cases i with
      | zero=>simp at h
      | succ i=>
       cases j with
       | zero=>simp at h'
       | succ j=>exact congrArg _ (ih (i:=i) (j:=j) (k:=k) (by unfold owIx at nd;exact nd) (by simpa using h) (by simpa using h'))
     | ow q=>
      unfold owIx at nd
      obtain ⟨n1,n2⟩:=List.nodup_cons.mp nd
      cases i with
      | zero=>
       simp at h;subst h
       cases j with
       | zero=>rfl
       | succ j=>exact absurd (mem_owIx (m:=j) (by simpa using h')) n1
      | succ i=>
       cases j with
       | zero=>simp at h';subst h';exact absurd (mem_owIx (m:=i) (by simpa using h)) n1
       | succ j=>exact congrArg _ (ih (i:=i) (j:=j) (k:=k) n2 (by simpa using h) (by simpa using h'))
   exact hij (nodup_two nd z1 y1)
  ·exact rs.apart k k' s s' x hk z2 z3 y2 y3 z4 y4
 ·obtain ⟨k,s,x,vs',z1,z2,z3,z4,z5,z6,z7,z8⟩:=low m xs h
  exact ⟨k,s,x,z1,z2,z3,z4,z5⟩
theorem RS.call {es:List Ev} {vs:List V} {as as':List Sl} {r:Rt} {v:V} {F' H':Hp} (rs:RS C p σ F H) (er:EvRs C.K p σ F es vs) (ha:argsOf p es=some as) (nd:(owIx es).Nodup) (po:Post C.K F H as vs r as' v F' H') :
  RS C (back p es as') σ F' H'/\Shp p (back p es as')/\RtR C (back p es as') σ F' H' r v:=by
 obtain ⟨ar,lent⟩:=args_ok rs er ha nd
 obtain ⟨l1,g1⟩:=argsOf_get ha
 obtain ⟨l2,g2⟩:=evs_get er
 -- an address of ours that is lent is the slot's
 have kept:∀(k:Nat) (s:Sl) (x:Addr) (o:HO),p[k]? = some (some s)->s.mu=true->σ[k]? = some (some (.ref x))->H x=some o->(∀m:Nat,es[m]?≠some (.ow k))->H' x=some o:=fun k s x o h1 h2 h3 h4 h5=>by
  refine po.keep x o h4 fun i xs z1 z2=>?_
  obtain ⟨k',s',x',y1,y2,y3,y4,y5⟩:=lent i xs z1
  rw [z2] at y5;cases y5
  by_cases hk:k=k'
  ·subst hk;exact h5 i y1
  ·exact rs.apart k k' s s' x hk h1 h2 y2 y3 h3 y4
 have stillF:∀x us,F x=none->H x≠none->H' x=some (.lst us)->F' x=none:=fun x us h1 h2 h3=>by
  cases q:F' x with
  | none=>rfl
  | some o=>
   rcases po.new x o q with z|z|⟨ys,z⟩
   ·rw [h1] at z;cases z
   ·exact absurd z h2
   ·subst z
    have:=po.sub x _ q
    rw [h3] at this;cases this
 have slot:∀(k:Nat) (s:Sl),(back p es as')[k]? = some (some s)->∃s0,p[k]? = some (some s0)/\s.mu=s0.mu/\(∀xs,s0=.own xs->∃ys,s=.own ys)/\(∀xs,s0=.bor xs->∃ys,s=.bor ys)/\(s0.mu=false->s=s0) /\
   (s.mu=true->∃x us ys,σ[k]? = some (some (.ref x))/\F' x=none/\H' x=some (.lst us)/\RepL C.K F' ys us/\(s=.own ys\/s=.bor ys)):=fun k s h=>by
  rcases back_get (es:=es) (as:=as') (p:=p) (k:=k) nd with ⟨m,ys,s0,h1,h2,h3,h4⟩|⟨h1,h2⟩
  ·rw [h4] at h;cases h
   obtain ⟨s1,q1,q2⟩:=g1 m _ h1
   have q3:∃xs,s1=.bor xs:=by
    unfold argOf at q2
    cases hq:mutL p k with
    | none=>simp [hq] at q2
    | some zs=>simp [hq] at q2;exact ⟨zs,q2.symm⟩
   obtain ⟨xs,rfl⟩:=q3
   obtain ⟨ys',x,us,a1,a2,a3,a4,a5⟩:=po.args m xs q1
   rw [h2] at a1;cases a1
   obtain ⟨k',s',x',y1,y2,y3,y4,y5⟩:=lent m xs q1
   rw [h1] at y1;cases y1
   rw [h3] at y2;cases y2
   rw [a2] at y5;cases y5
   refine ⟨s0,h3,?_,fun xs z=>⟨ys,by subst z;rfl⟩,fun xs z=>⟨ys,by subst z;rfl⟩,fun z=>?_,fun _=>⟨x,us,ys,y4,a3,a4,a5,?_⟩⟩
   ·cases s0<;>rfl
   ·rw [y3] at z;cases z
   ·cases s0 with
    | d x=>cases y3
    | own xs=>exact .inl rfl
    | bor xs=>exact .inr rfl
  ·rw [h2] at h
   refine ⟨s,h,rfl,fun xs z=>⟨xs,z⟩,fun xs z=>⟨xs,z⟩,fun _=>rfl,fun hm=>?_⟩
   obtain ⟨w,z1,z2⟩:=rs.sl k s h
   have nl:∀m:Nat,es[m]?≠some (.ow k):=fun m hm'=>by
    obtain ⟨s1,q1,q2⟩:=g1 m _ hm'
    have q3:∃xs,s1=.bor xs:=by
     unfold argOf at q2
     cases hq:mutL p k with
     | none=>simp [hq] at q2
     | some zs=>simp [hq] at q2;exact ⟨zs,q2.symm⟩
    obtain ⟨xs,rfl⟩:=q3
    obtain ⟨ys',x,us,a1,a2,a3,a4,a5⟩:=po.args m xs q1
    exact h1 m ys' s hm' a1 h
   cases s with
   | d x=>cases hm
   | own xs=>
    obtain ⟨x,us,rfl,y1,y2,y3,y4⟩:=z2
    have hH:=kept k _ x _ h rfl z1 y3 nl
    exact ⟨x,us,xs,z1,stillF x us y1 (by rw [y3];intro z;cases z) hH,hH,y4.mono po.ext,.inl rfl⟩
   | bor xs=>
    obtain ⟨x,us,rfl,y1,y2,y3,y4⟩:=z2
    have hH:=kept k _ x _ h rfl z1 y3 nl
    exact ⟨x,us,xs,z1,stillF x us y1 (by rw [y3];intro z;cases z) hH,hH,y4.mono po.ext,.inr rfl⟩
 have rs':RS C (back p es as') σ F' H':=by
  refine ⟨po.sub,rs.ext.trans po.ext,fun x o q=>?_,fun x o q n=>?_,fun x n=>po.grow x (rs.grow x n),by rw [back_len];exact rs.len,fun k s h=>?_,fun i j s s' x hij e1 m1 e2 m2 x1 x2=>?_,fun q hq=>?_⟩
  ·rcases po.new x o q with z|z|z
   ·exact rs.new x o z
   ·exact .inr (.inl (rs.free z).2.1)
   ·exact .inr (.inr z)
  ·refine po.keep x o (rs.keep x o q n) fun i xs z1 z2=>?_
   obtain ⟨k',s',x',y1,y2,y3,y4,y5⟩:=lent i xs z1
   rw [z2] at y5;cases y5
   obtain ⟨w,w1,w2⟩:=rs.sl k' s' y2
   rw [y4] at w1;cases w1
   cases s' with
   | d x=>cases y3
   | own xs=>obtain ⟨_,_,z,_,y,_⟩:=w2;cases z;rw [y] at q;cases q
   | bor xs=>obtain ⟨_,_,z,_,⟨q',hq',y⟩,_⟩:=w2;cases z;exact n q' hq' y
  ·obtain ⟨s0,h0,hm,ho,hb,hd,hl⟩:=slot k s h
   obtain ⟨w,w1,w2⟩:=rs.sl k s0 h0
   refine ⟨w,w1,?_⟩
   cases s0 with
   | d x=>rw [hd rfl];exact Rep.mono po.ext w2
   | own xs=>
    obtain ⟨ys,rfl⟩:=ho xs rfl
    obtain ⟨x,us,ys',z1,z2,z3,z4,z5⟩:=hl rfl
    rw [w1] at z1;cases z1
    obtain ⟨_,_,z,_,y,_⟩:=w2;cases z
    rcases z5 with z5|z5<;>cases z5
    exact ⟨x,us,rfl,z2,y,z3,z4⟩
   | bor xs=>
    obtain ⟨ys,rfl⟩:=hb xs rfl
    obtain ⟨x,us,ys',z1,z2,z3,z4,z5⟩:=hl rfl
    rw [w1] at z1;cases z1
    obtain ⟨_,_,z,_,y,_⟩:=w2;cases z
    rcases z5 with z5|z5<;>cases z5
    exact ⟨x,us,rfl,z2,y,z3,z4⟩
  ·obtain ⟨s1,h1,hm1,_⟩:=slot i s e1
   obtain ⟨s2,h2,hm2,_⟩:=slot j s' e2
   exact rs.apart i j s1 s2 x hij h1 (by rw [<-hm1];exact m1) h2 (by rw [<-hm2];exact m2) x1 x2
  ·obtain ⟨z1,xs,z2⟩:=rs.pin q hq
   refine ⟨z1,?_⟩
   rcases back_get (es:=es) (as:=as') (p:=p) (k:=q.1) nd with ⟨m,ys,s0,h1,h2,h3,h4⟩|⟨h1,h2⟩
   ·rw [z2] at h3;cases h3
    exact ⟨ys,h4⟩
   ·exact ⟨xs,by rw [h2];exact z2⟩
 refine ⟨rs',⟨back_len,fun k s h m=>?_⟩,?_⟩
 ·rcases back_get (es:=es) (as:=as') (p:=p) (k:=k) nd with ⟨m',ys,s0,h1,h2,h3,h4⟩|⟨h1,h2⟩
  ·rw [h] at h3;cases h3
   exact ⟨_,h4,by cases s<;>first|rfl|cases m⟩
  ·exact ⟨s,by rw [h2];exact h,m⟩
 ·have res:=po.res
  cases r with
  | rd x=>exact res
  | ro xs=>
   obtain ⟨x,us,z1,z2,z3,z4,z5⟩:=res
   refine ⟨x,us,z1,z2,(rs.free z3).2.1,z4,z5,fun k s h m z=>?_⟩
   obtain ⟨s0,h0,hm,_⟩:=slot k s h
   exact (rs.free z3).2.2 k s0 h0 (by rw [<-hm];exact m) z
def nCall (S:PSp) (t:TAQ):TN:=fun p Q=>t p fun es p1=>∃as,argsOf p1 es=some as/\(owIx es).Nodup/\S as fun r as'=>Q r (back p1 es as')
theorem n_call {x:Str} {st:Stmt} {ps:List Str} {k:Nat} {S:PSp} {p0:Pos} (hK:X.K=C.K) (D:DefAt X.K X.mg x st ps) (G:FnOk X.prog X.w X.K X.mg X.base CX0 k D.f D.fd ps (spOf X.K S)) (hr:Room k X.A) (ha:PA X (e::es) (UpA C tas))
  (hg:Gl X x:=by rfl) (hdb:(x == ("__debug__":Str))=false:=by decide) (he:starEach (e::es) X.env=(false,eval e X.env)::starEach es X.env:=by rfl) (hpl:(backTo pos (starEach es X.env)).any (·.1)=false:=by rfl) :
  PE X (.Call (.Name x p0) (e::es) [] pos) (UpN C (nCall S tas)):=
 QN.mk (pe_callD D G hr ha hg hdb he hpl) fun p σ F H R rs ht=>upA1 rs ht fun es1 p1 vs1 F1 H1 rs1 s1 sh er1 ⟨as,h1,nd,q⟩=>by
  rw [List.append_nil,hK]
  refine ⟨as,F1,_,rs1.sub,(args_ok rs1 er1 h1 nd).1,q,fun r as' v F' H' po hq=>?_⟩
  obtain ⟨rs2,sh2,rr⟩:=rs1.call er1 h1 nd po
  exact ⟨r,_,F',rs2,s1.trans po.ext,sh.trans sh2,rr,hq⟩
def outs:List Sl->PSt->List Sl
 | [],_=>[]
 | .bor _::r,some s::p=>s::outs r p
 | s::r,_::p=>s::outs r p
 | s::r,[]=>s::r
theorem outs_get:∀{as:List Sl} {p:PSt} {i:Nat} {xs:List D} {s:Sl},as[i]? = some (.bor xs)->p[i]? = some (some s)->(outs as p)[i]? = some s
 | [],p,i,xs,s,h,_=>by simp at h
 | a::as,[],i,xs,s,_,h=>by simp at h
 | .bor ys::as,o::p,0,xs,s,h,h'=>by
  simp at h';subst h';unfold outs;simp
 | .d y::as,o::p,0,xs,s,h,h'=>by simp at h
 | .own y::as,o::p,0,xs,s,h,h'=>by simp at h
 | .bor ys::as,none::p,i+1,xs,s,h,h'=>by
  unfold outs;simpa using outs_get (as:=as) (p:=p) (i:=i) (xs:=xs) (s:=s) (by simpa using h) (by simpa using h')
 | .bor ys::as,some q::p,i+1,xs,s,h,h'=>by
  unfold outs;simpa using outs_get (as:=as) (p:=p) (i:=i) (xs:=xs) (s:=s) (by simpa using h) (by simpa using h')
 | .d ys::as,o::p,i+1,xs,s,h,h'=>by
  unfold outs;simpa using outs_get (as:=as) (p:=p) (i:=i) (xs:=xs) (s:=s) (by simpa using h) (by simpa using h')
 | .own ys::as,o::p,i+1,xs,s,h,h'=>by
  unfold outs;simpa using outs_get (as:=as) (p:=p) (i:=i) (xs:=xs) (s:=s) (by simpa using h) (by simpa using h')
def lentBs:Nat->List Sl->List V->List (Nat × Addr)
 | n,.bor _::as,.ref a::vs=>(n,a)::lentBs (n+1) as vs
 | n,_::as,_::vs=>lentBs (n+1) as vs
 | _,_,_=>[]
theorem lentBs_mem:∀{as:List Sl} {vs:List V} {n:Nat} {q:Nat × Addr},q∈lentBs n as vs->∃(m:Nat) (xs:List D),q.1=n+m/\as[m]? = some (.bor xs)/\vs[m]? = some (.ref q.2)
 | [],vs,n,q,h=>by unfold lentBs at h;simp at h
 | a::as,[],n,q,h=>by cases a<;>(unfold lentBs at h;simp at h)
 | a::as,v::vs,n,q,h=>by
  have step:q∈lentBs (n+1) as vs->∃(m:Nat) (xs:List D),q.1=n+m/\(a::as)[m]? = some (.bor xs)/\(v::vs)[m]? = some (.ref q.2):=fun h=>by
   obtain ⟨m,xs,h1,h2,h3⟩:=lentBs_mem h
   exact ⟨m+1,xs,by omega,by simpa using h2,by simpa using h3⟩
  cases a with
  | bor ys=>
   cases v with
   | ref x=>
    unfold lentBs at h
    rcases List.mem_cons.mp h with h|h
    ·subst h;exact ⟨0,ys,by simp,by simp,by simp⟩
    ·exact step h
   | _=>exact step (by unfold lentBs at h;exact h)
  | d y=>exact step (by unfold lentBs at h;exact h)
  | own y=>exact step (by unfold lentBs at h;exact h)
theorem mem_lentBs:∀{as:List Sl} {vs:List V} {n m:Nat} {xs:List D} {x:Addr},as[m]? = some (.bor xs)->vs[m]? = some (.ref x)->(n+m,x)∈lentBs n as vs
 | [],vs,n,m,xs,x,h,_=>by simp at h
 | a::as,[],n,m,xs,x,_,h=>by simp at h
 | a::as,v::vs,n,0,xs,x,h,h'=>by
  simp at h h';subst h h';unfold lentBs;simp
 | a::as,v::vs,n,m+1,xs,x,h,h'=>by
  have ih:=mem_lentBs (as:=as) (vs:=vs) (n:=n+1) (m:=m) (xs:=xs) (x:=x) (by simpa using h) (by simpa using h')
  have e:n+(m+1)=n+1+m:=by omega
  rw [e]
  cases a with
  | bor ys=>
   cases v with
   | ref y=>unfold lentBs;exact List.mem_cons_of_mem _ ih
   | _=>unfold lentBs;exact ih
  | d y=>unfold lentBs;exact ih
  | own y=>unfold lentBs;exact ih
def startP (N:List Str) (as:List Sl):PSt:=as.map some++List.replicate (N.length - as.length) none
end
section
variable {P:Program} {w:World} {K:PySem.W.Frag} {mg:Str->Option Value} {base:Heap}
theorem Fun.okP {x qual:Str} {st:Stmt} {f:Addr} {fd:FuncData} {N ps:List Str} {k:Nat} {S:PSp} (Fn:Fun K x qual st f fd) (Sc:FnScope N ps (defScope st)) (len:∀as R,S as R->as.length=ps.length)
  (hbody:∀(cdv:Value) (A:Around) (outer:List Env) (s:Shared) (H:Hp) (E:XK) (C:Pc) (as:List Sl) (R:Rt->List Sl->Prop),K=C.K->Room k (A.deeper (envOfC qual (defScope st) s.heap.objs.size f cdv))->S as R->
   ∃t,PSs (cxOf CX0 P w K mg base N qual (defScope st) f cdv A outer s H E).nox (defBody st) (UpS C t)/\t { nx:=fun p=>R (.rd .non) (outs as p),rt:=fun r p=>R r (outs as p) } (startP N as)):FnOk P w K mg base CX0 (k+1) f fd ps (spOf K S):=by
 refine Fn.ok Sc (fun vs H Q E h=>?_) (fun cdv A outer s H vs Q E hr h=>?_)
 ·obtain ⟨as,F,R,h1,h2,h3,h4⟩:=h
  rw [<-h2.len];exact len as R h3
 obtain ⟨as,F,R,sFH,ar,hS,hq⟩:=h
 have hb:=hbody cdv A outer s H E ⟨K,F,H,lentBs 0 as vs⟩ as R rfl hr hS
 obtain ⟨t,ht,tq⟩:=hb
 have bsm:∀q∈lentBs 0 as vs,∃xs,as[q.1]? = some (.bor xs)/\vs[q.1]? = some (.ref q.2):=fun q hq=>by
  obtain ⟨m,xs,h1,h2,h3⟩:=lentBs_mem hq
  rw [Nat.zero_add] at h1
  rw [h1]
  exact ⟨xs,h2,h3⟩
 have getP:∀(i:Nat) (s:Sl),(startP N as)[i]? = some (some s)->as[i]? = some s:=fun i s h=>by
  unfold startP at h
  by_cases hi:i<as.length
  ·rw [List.getElem?_append_left (by simpa using hi)] at h
   simpa using h
  ·rw [List.getElem?_append_right (by simpa using Nat.le_of_not_lt hi),List.getElem?_replicate] at h
   split at h<;>cases h
 have getV:∀(i:Nat) (v:V),vs[i]? = some v->(start N vs)[i]? = some (some v):=fun i v h=>by
  unfold start
  have hi:=(List.getElem?_eq_some_iff.mp h).1
  rw [List.getElem?_append_left (by simpa using hi)]
  simpa using h
 have rs:RS ⟨K,F,H,lentBs 0 as vs⟩ (startP N as) (start N vs) F H:=by
  refine ⟨sFH,.refl _,fun a o h=>.inl h,fun a o h _=>h,fun a h=>h,?_,fun i s h=>?_,fun i j s s' a hij e1 m1 e2 m2 x1 x2=>?_,fun q hq=>?_⟩
  ·unfold startP start
   rw [List.length_append,List.length_append,List.length_map,List.length_map,List.length_replicate,List.length_replicate,ar.len]
  ·obtain ⟨v,h1,h2⟩:=ar.at_ i s (getP i s h)
   refine ⟨v,getV i v h1,?_⟩
   cases s with
   | d x=>exact h2
   | own xs=>exact h2.elim
   | bor xs=>
    obtain ⟨a,us,rfl,z1,z2,z3⟩:=h2
    have mm:=mem_lentBs (n:=0) (getP i _ h) h1
    exact ⟨a,us,rfl,z1,⟨_,mm,rfl⟩,z2,z3⟩
  ·have f1:=getP i s e1
   have f2:=getP j s' e2
   obtain ⟨v1,h1,k1⟩:=ar.at_ i s f1
   obtain ⟨v2,h2,k2⟩:=ar.at_ j s' f2
   rw [getV i v1 h1] at x1;cases x1
   rw [getV j v2 h2] at x2;cases x2
   cases s with
   | d x=>cases m1
   | own xs=>exact k1.elim
   | bor xs=>
    cases s' with
    | d x=>cases m2
    | own xs=>exact k2.elim
    | bor ys=>exact ar.apart i j xs ys a hij f1 f2 h1 h2
  ·obtain ⟨xs,h1,h2⟩:=bsm q hq
   refine ⟨getV _ _ h2,xs,?_⟩
   unfold startP
   have hi:=(List.getElem?_eq_some_iff.mp h1).1
   rw [List.getElem?_append_left (by simpa using hi)]
   simpa using h1
 -- the end
 have fin:∀(r:Rt) (p1:PSt) (σ1:St) (v:V) (F1 H1:Hp),RS ⟨K,F,H,lentBs 0 as vs⟩ p1 σ1 F1 H1->RtR ⟨K,F,H,lentBs 0 as vs⟩ p1 σ1 F1 H1 r v->R r (outs as p1)->Q v H1:=fun r p1 σ1 v F1 H1 rs1 rr q=>by
  refine hq r _ v F1 H1 ⟨rs1.ext,rs1.sub,rs1.new,fun a o h n=>?_,rs1.grow,fun i xs h=>?_,?_⟩ q
  ·refine rs1.keep a o h fun q hq z=>?_
   obtain ⟨xs,h1,h2⟩:=bsm q hq
   exact n q.1 xs h1 (by rw [h2,z])
  ·obtain ⟨v,h1,k1⟩:=ar.at_ i _ h
   obtain ⟨a,us,rfl,z1,z2,z3⟩:=k1
   have mm:=mem_lentBs (n:=0) h h1
   obtain ⟨p1',ys,p2'⟩:=rs1.pin _ mm
   rw [Nat.zero_add] at p1' p2'
   obtain ⟨w,w1,b,us',e,y1,y2,y3,y4⟩:=rs1.sl i _ p2'
   rw [p1'] at w1;cases w1;cases e
   exact ⟨ys,a,us',outs_get h p2',h1,y1,y3,y4⟩
  ·cases r with
   | rd x=>exact rr
   | ro xs=>obtain ⟨a,us,z1,z2,z3,z4,z5,_⟩:=rr;exact ⟨a,us,z1,z2,z3,z4,z5⟩
 refine ⟨_,ht,startP N as,F,_,rs,tq,⟨fun σ1 H1 ⟨p1,F1,rs1,s1,q⟩=>?_,fun v H1 ⟨r,p1,σ1,F1,rs1,s1,rr,q⟩=>?_,fun _ _ ⟨_,_,_,_,z⟩=>z.elim,fun _ _ ⟨_,_,_,_,z⟩=>z.elim⟩⟩
 ·exact fin (.rd .non) p1 σ1 .non F1 H1 rs1 .non q
 ·exact fin r p1 σ1 v F1 H1 rs1 rr q
end
def Pc.sh (C:Pc) (k:Nat):Pc:=⟨C.K,C.F0,C.H0,C.bs.map fun q=>(q.1+k,q.2)⟩
section
variable {X:Cx} {C:Pc} {a b c e:Expr} {ta tb tc:TQ} {pos:Pos} {K:PySem.W.Frag} {p:PSt} {σ:St} {F H:Hp} {k:Nat}
theorem rep_get {α:Type} {l:List (Option α)} {i:Nat} {s:α} (h:(List.replicate k none++l)[i]? = some (some s)):∃j,i=k+j/\l[j]? = some (some s):=by
 by_cases hi:i<k
 ·rw [List.getElem?_append_left (by simpa using hi),List.getElem?_replicate,if_pos hi] at h
  cases h
 ·rw [List.getElem?_append_right (by simpa using Nat.le_of_not_lt hi),List.length_replicate] at h
  exact ⟨i - k,by omega,h⟩
theorem rep_at {α:Type} {l:List (Option α)} {j:Nat}:(List.replicate k (none:Option α)++l)[k+j]? = l[j]?:=by
 rw [List.getElem?_append_right (by simp),List.length_replicate,Nat.add_sub_cancel_left]
theorem sl_sh {s:Sl} {v:V}:SlRel (C.sh k) F H s v ↔ SlRel C F H s v:=by
 cases s with
 | d x=>exact Iff.rfl
 | own xs=>exact Iff.rfl
 | bor xs=>
  constructor
  ·rintro ⟨x,vs,h1,h2,⟨q,hq,h3⟩,h4⟩
   obtain ⟨q',hq',e⟩:=List.mem_map.mp hq
   exact ⟨x,vs,h1,h2,⟨q',hq',by rw [<-h3,<-e]⟩,h4⟩
  ·rintro ⟨x,vs,h1,h2,⟨q,hq,h3⟩,h4⟩
   exact ⟨x,vs,h1,h2,⟨(q.1+k,q.2),List.mem_map.mpr ⟨q,hq,rfl⟩,h3⟩,h4⟩
theorem RS.shift (rs:RS C p σ F H):RS (C.sh k) (List.replicate k none++p) (List.replicate k none++σ) F H:=by
 refine ⟨rs.sub,rs.ext,rs.new,fun x o h n=>rs.keep x o h fun q hq=>n (q.1+k,q.2) (List.mem_map.mpr ⟨q,hq,rfl⟩),rs.grow,by rw [List.length_append,List.length_append,List.length_replicate,List.length_replicate,rs.len],fun i s h=>?_,fun i j s s' x hij e1 m1 e2 m2 x1 x2=>?_,fun q hq=>?_⟩
 ·obtain ⟨j,rfl,h1⟩:=rep_get h
  obtain ⟨v,e1,r⟩:=rs.sl j s h1
  exact ⟨v,by rw [rep_at];exact e1,sl_sh.mpr r⟩
 ·obtain ⟨i',rfl,h1⟩:=rep_get e1
  obtain ⟨j',rfl,h2⟩:=rep_get e2
  rw [rep_at] at x1 x2
  exact rs.apart i' j' s s' x (fun z=>hij (by rw [z])) h1 m1 h2 m2 x1 x2
 ·obtain ⟨q',hq',e⟩:=List.mem_map.mp hq
  obtain ⟨z1,xs,z2⟩:=rs.pin q' hq'
  subst e
  have e:q'.1+k=k+q'.1:=Nat.add_comm _ _
  exact ⟨by show (List.replicate k none++σ)[q'.1+k]? = _;rw [e,rep_at];exact z1,xs,by show (List.replicate k none++p)[q'.1+k]? = _;rw [e,rep_at];exact z2⟩
theorem RS.unshift (rs:RS (C.sh k) p σ F H) (hk:k<=p.length):RS C (p.drop k) (σ.drop k) F H:=by
 refine ⟨rs.sub,rs.ext,rs.new,fun x o h n=>rs.keep x o h fun q hq=>?_,rs.grow,by rw [List.length_drop,List.length_drop,rs.len],fun i s h=>?_,fun i j s s' x hij e1 m1 e2 m2 x1 x2=>?_,fun q hq=>?_⟩
 ·obtain ⟨q',hq',e⟩:=List.mem_map.mp hq
  rw [<-e];exact n q' hq'
 ·rw [List.getElem?_drop] at h
  obtain ⟨v,e1,r⟩:=rs.sl _ s h
  exact ⟨v,by rw [List.getElem?_drop];exact e1,sl_sh.mp r⟩
 ·rw [List.getElem?_drop] at e1 e2 x1 x2
  exact rs.apart _ _ s s' x (fun z=>hij (by omega)) e1 m1 e2 m2 x1 x2
 ·obtain ⟨z1,xs,z2⟩:=rs.pin (q.1+k,q.2) (List.mem_map.mpr ⟨q,hq,rfl⟩)
  have e:q.1+k=k+q.1:=Nat.add_comm _ _
  refine ⟨?_,xs,?_⟩
  ·rw [List.getElem?_drop,<-e];exact z1
  ·rw [List.getElem?_drop,<-e];exact z2
def XGk (C:Pc) (k:Nat) (p:PSt) (σ:St) (F:Hp) (R:PSt->Prop) (σ1:St) (H1:Hp):Prop:=∃p1 F1,RS C p1 σ1 F1 H1/\Same F F1/\Shp p p1/\σ1.drop k=σ.drop k/\R p1
def UpGk (C:Pc) (k:Nat) (g:TGQ):TG:=fun v σ H Q=>∃p F x R,RS C p σ F H/\Rep C.K F x v/\g x p R/\∀σ1 H1,XGk C k p σ F R σ1 H1->Q σ1 H1
theorem QGk.mk {tg:Expr} {g:TG} {g':TGQ} (h:PG X tg g) (hi:∀p σ F H x v R,RS C p σ F H->Rep C.K F x v->g' x p R->g v σ H (XGk C k p σ F R)):PG X tg (UpGk C k g'):=fun pins s σ H v u Q I r ⟨p,F,x,R,rs,rx,hg,hq⟩=>
 thn (h pins s σ H v u _ I r (hi p σ F H x v R rs rx hg)) fun _ _ ⟨σ1,H1,I1,q1⟩=>⟨σ1,H1,I1,hq σ1 H1 q1⟩
def gkName (i:Nat):TGQ:=fun x p Q=>mutL p i=none/\Q (p.set i (some (.d x)))
theorem gk_name {i:Nat} {x:Str} (hik:i<k) (hN:X.N.Nodup) (hi:X.N[i]? = some x) (hx:Loc X.env.scope x) (hf:X.fn x=true\/X.env.scope.names.lookup x=some .local:=by first|exact .inl rfl|exact .inr rfl|assumption):PG X (.Name x pos) (UpGk C k (gkName i)):=
 QGk.mk (pg_name hN hi hx hf) fun p σ F H x v R rs rx ⟨hn,q⟩=>by
  have hb:nbr p i=true:=by
   unfold nbr
   unfold mutL at hn
   split
   ·rename_i e;rw [e] at hn;cases hn
   ·rfl
  refine ⟨_,F,rs.setD hb rx,.refl _,⟨List.length_set,fun j s e m=>?_⟩,?_,q⟩
  ·by_cases hj:i=j
   ·subst hj
    unfold mutL at hn
    rw [e] at hn
    cases s with
    | d x=>cases m
    | own xs=>cases hn
    | bor xs=>cases hn
   ·exact ⟨s,by rw [List.getElem?_set_ne hj];exact e,m⟩
  ·apply List.ext_getElem?
   intro j
   rw [List.getElem?_drop,List.getElem?_drop,List.getElem?_set_ne (by omega)]
def qYes:TTQ:=fun p Q=>Q true p
theorem ts_nil:PTs X [] (UpT C qYes):=fun pins s σ H Q I ⟨p,F,R,rs,ht,hq⟩=>pts_nil pins s σ H Q I (hq true H ⟨p,F,rs,.refl _,.refl _,ht⟩)
def nComp (k:Nat) (ti:TIQ) (g:TGQ) (tt:TTQ) (te:TQ):TN:=fun p Q=>ti p fun n item p1=>∃I:Nat->List D->PSt->Prop,I 0 [] (List.replicate k none++p1)/\n<=100000 /\
 (∀i ys p2,i<n->I i ys p2->ys.length<=i/\g (item i) p2 fun p3=>tt p3 fun b p4=>if b=true then te p4 fun e p5=>∃y,e=.fz y/\I (i+1) (ys++[y]) p5 else I (i+1) ys p4)/\∀ys p2,I n ys p2->Q (.ro ys) (p2.drop k)
theorem comp_low {ti:TIQ} {g:TGQ} {tt:TTQ} {te:TQ} {R:Rt->PSt->Prop} {Q:VK} (rs:RS C p σ F H) (ht:nComp k ti g tt te p R) (hq:∀v H1,XN C p σ F R v H1->Q v H1) :
  tComp k (UpI C ti) (UpGk (C.sh k) k g) (UpT (C.sh k) tt) (Up (C.sh k) te) σ H Q:=
 ⟨p,F,_,rs,ht,fun J H1 ⟨n,item,p1,F1,rs1,s1,sh1,jq,I,i0,hn,istep,iend⟩=>by
  have lp:p1.length=σ.length:=rs1.len
  refine ⟨fun i m ys σ2 H2=>m=n - i/\i<=n/\∃p2 F2 zs,RS (C.sh k) p2 σ2 F2 H2/\Same F1 F2/\Shp (List.replicate k none++p1) p2/\σ2.drop k=σ/\RepL C.K F2 zs ys/\I i zs p2,⟨n,by simp,Nat.zero_le _,_,F1,[],rs1.shift,.refl _,.refl _,by simp,.nil,i0⟩,?_⟩
  rintro i m ys σ2 H2 ⟨rfl,hi,p2,F2,zs,rs2,s2,sh2,d2,rz,i2⟩
  have hkp:k<=p2.length:=by
   have:=sh2.1
   rw [List.length_append,List.length_replicate] at this
   omega
  by_cases hlt:i<n
  ·obtain ⟨hl,st⟩:=istep i zs p2 hlt i2
   refine .inr ⟨jq.go i F2 H2 rs2.sub s2 hlt,?_,fun ys' σ' H'=>∃p' F' zs',RS (C.sh k) p' σ' F' H'/\Same F1 F'/\Shp (List.replicate k none++p1) p'/\σ'.drop k=σ/\RepL C.K F' zs' ys'/\I (i+1) zs' p',fun _ _ _ h=>⟨n - (i+1),by omega,rfl,hlt,h⟩,fun x H' y=>?_⟩
   ·rw [<-rz.length];exact Nat.lt_of_le_of_lt hl (Nat.lt_of_lt_of_le (Nat.lt_of_lt_of_le hlt hn) (by decide))
   obtain ⟨F3,rs3,s3,r3⟩:=JQ.out (C:=C.sh k) jq rs2 s2 hlt y
   refine ⟨p2,F3,item i,_,rs3,r3,st,fun σ4 H4 ⟨p4,F4,rs4,s4,sh4,d4,q4⟩=>?_⟩
   refine upT1 rs4 q4 fun b p5 F5 H5 rs5 s5 sh5 q5=>?_
   have s15:Same F1 F5:=s2.trans (s3.trans (s4.trans s5))
   refine ite_imp (fun q5=>?_) (fun q5=>?_) q5
   ·refine up1 rs5 q5 fun e6 p6 v6 F6 H6 rs6 s6 sh6 er6 ⟨z,hz,q6⟩=>?_
    subst hz
    exact ⟨p6,F6,zs++[z],rs6,s15.trans s6,sh2.trans (sh4.trans (sh5.trans sh6)),d4.trans d2,(rz.mono (s3.trans (s4.trans (s5.trans s6)))).append (.cons er6 .nil),q6⟩
   ·exact ⟨p5,F5,zs,rs5,s15,sh2.trans (sh4.trans sh5),d4.trans d2,rz.mono (s3.trans (s4.trans s5)),q5⟩
  ·have e:i=n:=by omega
   subst e
   refine .inl ⟨jq.stop F2 H2 rs2.sub s2,fun A hA=>?_⟩
   have rs3:=rs2.unshift hkp
   rw [d2] at rs3
   refine hq _ _ (fin_new rs3 (s1.trans s2) (sh1.trans ⟨?_,fun j s h m=>?_⟩) hA rz (iend zs p2 i2))
   ·rw [List.length_drop,sh2.1,List.length_append,List.length_replicate,Nat.add_sub_cancel_left]
   ·obtain ⟨s',h',m'⟩:=sh2.2 (k+j) s (by rw [rep_at];exact h) m
    exact ⟨s',by rw [List.getElem?_drop];exact h',m'⟩⟩
theorem n_comp {elt iter tg:Expr} {ifs:List Expr} {scope:Scope} {N:List Str} {ti:TIQ} {g:TGQ} {tt:TTQ} {te:TQ} (S:CompScope X scope N k) (hc:X.calm=true) (hi:PI X tg iter (UpI C ti))
  (hg:∀Z s H fp,PG (cxComp X scope N Z s H fp) tg (UpGk (C.sh k) k g)) (ht:∀Z s H fp,PTs (cxComp X scope N Z s H fp) ifs (UpT (C.sh k) tt)) (he:∀Z s H fp,PE (cxComp X scope N Z s H fp) elt (Up (C.sh k) te))
  (hs:∀x,foldedSetIterable iter X.env x=pure x:=by intro _;rfl):PE X (.ListComp elt [⟨tg,iter,ifs,0⟩] scope pos) (UpN C (nComp k ti g tt te)):=
 QN.mk (pe_comp S hc hi hg ht he hs) fun p σ F H R rs ht=>comp_low rs ht fun _ _ h=>h
end
theorem atl_0 {α:Type} (x:α) (xs:List α):atI (x::xs) 0=some x:=atI_nat (j:=0) rfl
theorem atl_1 {α:Type} (x y:α) (xs:List α):atI (x::y::xs) 1=some y:=atI_nat (j:=1) rfl
theorem atl_2 {α:Type} (x y z:α) (xs:List α):atI (x::y::z::xs) 2=some z:=atI_nat (j:=2) rfl
theorem atl_3 {α:Type} (x y z u:α) (xs:List α):atI (x::y::z::u::xs) 3=some u:=atI_nat (j:=3) rfl
theorem ixl_20:ixN 2 0=some 0:=rfl
theorem ixl_21:ixN 2 1=some 1:=rfl
theorem getD_ints {ns:List Int} {i:Nat} (h:i<ns.length):(ns.map D.int).getD i .non=.int (ns.getD i 0):=by
 rw [List.getD_eq_getElem?_getD,List.getElem?_map,List.getElem?_eq_getElem h,List.getD_eq_getElem?_getD,List.getElem?_eq_getElem h];rfl
theorem atLast (xs:List D) (x:D):atI (xs++[x]) (-1)=some x:=atI_last xs x
theorem cut_take {α:Type} (xs:List α) (m:Nat):cut xs none (some (m:Int))=xs.take m:=by
 unfold cut
 rw [HT.sIx_none,HT.sIx_nat,List.drop_zero,Nat.sub_zero]
 by_cases h:m<=xs.length
 ·rw [Nat.min_eq_left h]
 ·rw [Nat.min_eq_right (by omega),List.take_of_length_le (Nat.le_refl _),List.take_of_length_le (by omega)]
theorem for_q {ti:TIQ} {g:TGQ} {tb:TSQ} {E:PEnds} {p:PSt} {n:Nat} {item:Nat->D} {p1:PSt} (hti:∀Q:Nat->(Nat->D)->PSt->Prop,Q n item p1->ti p Q) (I:Nat->PSt->Prop) (h0:I 0 p1)
  (hs:∀i p2,i<n->I i p2->g (item i) p2 fun p3=>tb { E with nx:=I (i+1),ct:=I (i+1),bk:=E.nx } p3) (hd:∀p2,I n p2->E.nx p2):qFor ti g tb E p:=hti _ ⟨I,h0,hs,hd⟩
theorem comp_q {k:Nat} {ti:TIQ} {g:TGQ} {tt:TTQ} {te:TQ} {Q:Rt->PSt->Prop} {p:PSt} {n:Nat} {item:Nat->D} {p1:PSt} (hti:∀Q:Nat->(Nat->D)->PSt->Prop,Q n item p1->ti p Q) (hn:n<=100000) (I:Nat->List D->PSt->Prop) (h0:I 0 [] (List.replicate k none++p1))
  (hl:∀i ys p2,I i ys p2->ys.length<=i)
  (hs:∀i ys p2,i<n->I i ys p2->g (item i) p2 fun p3=>tt p3 fun b p4=>if b=true then te p4 fun e p5=>∃y,e=.fz y/\I (i+1) (ys++[y]) p5 else I (i+1) ys p4) (hd:∀ys p2,I n ys p2->Q (.ro ys) (p2.drop k)):nComp k ti g tt te p Q:=
 hti _ ⟨I,h0,hn,fun i ys p2 hi h=>⟨hl i ys p2 h,hs i ys p2 hi h⟩,hd⟩
theorem comp_map {ti:TIQ} {te:TQ} {Q:Rt->PSt->Prop} {p:PSt} {n:Nat} {item:Nat->D} {p1:PSt} (hti:∀Q:Nat->(Nat->D)->PSt->Prop,Q n item p1->ti p Q) (hn:n<=100000) (f:Nat->D)
  (hs:∀i (R:Ev->PSt->Prop),i<n->R (.fz (f i)) (some (.d (item i))::p1)->te (some (.d (item i))::p1) R) (hd:Q (.ro ((List.range n).map f)) p1):nComp 1 ti (gkName 0) qYes te p Q:=by
 refine comp_q hti hn (fun i ys p2=>ys=(List.range i).map f/\∃o:Option D,p2=(o.map Sl.d)::p1) ⟨rfl,none,rfl⟩ (fun i ys p2 h=>by rw [h.1,List.length_map,List.length_range];exact Nat.le_refl _) ?_ ?_
 ·rintro i ys p2 hi ⟨rfl,o,rfl⟩
  refine ⟨by cases o<;>rfl,?_⟩
  show qYes (some (.d (item i))::p1) _
  unfold qYes
  simp only [if_true]
  refine hs i _ hi ⟨_,rfl,?_,some (item i),rfl⟩
  rw [List.range_succ,List.map_append];rfl
 ·rintro ys p2 ⟨rfl,o,rfl⟩
  exact hd
end L2
namespace L2
open PySem
section
variable {o:Option Sl} {p:PSt} {i:Nat} {x:D} {xs ys:List D} {u:Option D}
theorem nb_s:nbr (o::p) (i+1)=nbr p i:=rfl
theorem nb_n:nbr (none::p) 0=true:=rfl
theorem nb_d:nbr (some (.d x)::p) 0=true:=rfl
theorem nb_o:nbr (some (.own xs)::p) 0=true:=rfl
theorem nb_u:nbr (Option.map Sl.d u::p) 0=true:=by cases u<;>rfl
theorem mu_s:mutL (o::p) (i+1)=mutL p i:=rfl
theorem mu_n:mutL (none::p) 0=none:=rfl
theorem mu_d:mutL (some (.d x)::p) 0=none:=rfl
theorem mu_o:mutL (some (.own xs)::p) 0=some xs:=rfl
theorem mu_b:mutL (some (.bor xs)::p) 0=some xs:=rfl
theorem mu_u:mutL (Option.map Sl.d u::p) 0=none:=by cases u<;>rfl
theorem pu_s:putL (o::p) (i+1) ys=o::putL p i ys:=by
 unfold putL
 rw [List.getElem?_cons_succ]
 cases h:p[i]? with
 | none=>rfl
 | some s=>cases s<;>rfl
theorem pu_0 {s:Sl}:putL (some s::p) 0 ys=some (s.put ys)::p:=rfl
end
theorem seq_cutP {t R:TSQ} {E:PEnds} {p:PSt} (I:PSt->Prop) (h:∀k:PSt->Prop,(∀p',I p'->k p')->t { E with nx:=k } p) (hR:∀p',I p'->R E p'):qSeq t R E p:=h (R E) hR
theorem seq_goP {t R:TSQ} {E:PEnds} {p:PSt} (h:t { E with nx:=R E } p):qSeq t R E p:=h
theorem eqd_00:EqDom (.lst []) (.lst [])=True:=eq_true (.li ⟨[],rfl⟩ ⟨[],rfl⟩)
theorem AllI.map (ns:List Int):AllI (ns.map D.int):=⟨ns,rfl⟩
theorem for_i {ti:TIQ} {g:TGQ} {tb:TSQ} {E:PEnds} {p:PSt} (h:ti p fun n item p1=>∃I:Nat->PSt->Prop,I 0 p1/\(∀i p2,i<n->I i p2->g (item i) p2 fun p3=>tb { E with nx:=I (i+1),ct:=I (i+1),bk:=E.nx } p3)/\∀p2,I n p2->E.nx p2):qFor ti g tb E p:=h
theorem args_scr {K:PySem.W.Frag} {H:Hp} {a:Addr} {ns:List Int} (h:SqL K H a (ns.map V.int)):ArgsR K H H [.d (.scr ns)] [.ref a]:=by
 refine ⟨rfl,fun i s e=>?_,fun i j xs ys x hij e1 e2 _ _=>?_⟩
 ·cases i with
  | zero=>simp at e;subst e;exact ⟨.ref a,rfl,.scr h⟩
  | succ i=>simp at e
 ·cases i with
  | zero=>simp at e1
  | succ i=>simp at e1
end L2
namespace L2
open PySem PySem.Spec PyProof.Rows
section
variable {X:Cx} {C:Pc} {a b c e:Expr} {ta tb tc:TQ} {tas:TAQ} {pos ps:Pos}
def qAddS (ta tb:TQ):TQ:=fun p Q=>ta p fun e1 p1=>tb p1 fun e2 p2=>∃x y,lk p2 e1=.str x/\lk p2 e2=.str y/\x.length+y.length<=100000/\Q (.fz (.str (x++y))) p2
theorem q_addS (ha:PE X a (Up C ta)) (hb:PE X b (Up C tb)):PE X (.BinOp a .Add b pos) (Up C (qAddS ta tb)):=
 QE.mk (pe_op op_add_str ha hb) fun p σ F H R rs ht=>up2 rs ht fun e1 e2 p1 v1 v2 F1 H1 rs1 s1 sh er1 er2 ⟨x,y,h1,h2,hz,q⟩=>⟨x,y,ev_str er1 h1,ev_str er2 h2,line_of hz,fin_ev rs1 s1 sh (.str _) q⟩
theorem op_mul_str:OpR X (binaryOp .Mult) (fun x y H Q=>∃z n,x=.str z/\y=.int n/\MulOk z n/\Q (.str (Txt.mul z n)) H):=by
 intro pins s σ H x y v u Q I rx ry h
 obtain ⟨z,n,rfl,rfl,hm,q⟩:=h
 obtain ⟨t,rfl⟩:=rx
 obtain ⟨t',rfl⟩:=ry
 exact SB.mul hm fun t'' k=>⟨.str _,H,I.tok _,⟨_,rfl⟩,q⟩
def qMulS (ta tb:TQ):TQ:=fun p Q=>ta p fun e1 p1=>tb p1 fun e2 p2=>∃x n,lk p2 e1=.str x/\lk p2 e2=.int n/\MulOk x n/\Q (.fz (.str (Txt.mul x n))) p2
theorem q_mulS (ha:PE X a (Up C ta)) (hb:PE X b (Up C tb)):PE X (.BinOp a .Mult b pos) (Up C (qMulS ta tb)):=
 QE.mk (pe_op op_mul_str ha hb) fun p σ F H R rs ht=>up2 rs ht fun e1 e2 p1 v1 v2 F1 H1 rs1 s1 sh er1 er2 ⟨x,n,h1,h2,hz,q⟩=>⟨x,n,ev_str er1 h1,ev_int er2 h2,hz,fin_ev rs1 s1 sh (.str _) q⟩
theorem call_intS:CallR X (.type "int") (fun xs H Q=>∃x n,xs=[.str x]/\intText? x=some n/\x.length<=640/\Q (.int n) H):=by
 intro pins s σ H xs us Q I r h
 obtain ⟨x,n,rfl,h1,h2,q⟩:=h
 obtain ⟨u,rfl,ru⟩:=vals1 r
 obtain ⟨t,rfl⟩:=ru
 exact PySem.W.KIN.call_text h1 h2 ⟨.int n,H,I.tok _,⟨_,rfl⟩,q⟩
def qIntS (ta:TAQ):TQ:=fun p Q=>ta p fun es p1=>∃e x n,es=[e]/\lk p1 e=.str x/\intText? x=some n/\x.length<=640/\Q (.fz (.int n)) p1
theorem cb_intS (hg:Gl X "int") (hm:X.mg "int"=none) (ha:PA X [e] (UpA C tas)) (he:starEach [e] X.env=(false,eval e X.env)::starEach [] X.env:=by rfl):PE X (.Call (.Name "int" ps) [e] [] pos) (Up C (qIntS tas)):=
 QE.mk (pe_callTy call_intS hg hm (by kernel_rfl) ha (he:=he)) fun p σ F H R rs ht=>upA1 rs ht fun es1 p1 vs1 F1 H1 rs1 s1 sh er1 ⟨e1,x,n,h1,h2,h3,h4,q⟩=>by
  obtain ⟨v,rfl,er⟩:=evs1 er1 h1
  exact ⟨x,n,by rw [ev_str er h2],h3,h4,fin_ev rs1 s1 sh (.int _) q⟩
end
mutual
def toP:D->PyData
 | .non=>.none
 | .bl b=>.bool b
 | .int i=>.int i
 | .str x=>.str x
 | .lst xs=>.list (toPs xs)
 | .tup xs=>.tuple (toPs xs)
 | .atom _=>.none
 | .scr ns=>.list (ns.map PyData.int)
 | .dic _ _=>.none
 | .exc _=>.none
 | .exb=>.none
def toPs:List D->List PyData
 | []=>[]
 | x::xs=>toP x::toPs xs
end
mutual
def plain:D->Bool
 | .atom _=>false
 | .dic _ _=>false
 | .exc _=>false
 | .exb=>false
 | .lst xs=>plains xs
 | .tup xs=>plains xs
 | _=>true
def plains:List D->Bool
 | []=>true
 | x::xs=>plain x && plains xs
end
theorem reads_ints {h:Heap}:∀{ns:List Int} {its:List Value},Vals (ns.map V.int) its->∃as,ReadsAll h its (ns.map PyData.int) as
 | [],_,r=>by cases r;exact ⟨_,.nil⟩
 | n::ns,_,r=>by
  cases r with
  | cons h1 t=>
   obtain ⟨tk,rfl⟩:=h1
   obtain ⟨as,ra⟩:=reads_ints (ns:=ns) t
   exact ⟨_,.cons (.int _ _) ra⟩
section
variable {X:Cx} {pins:List (Addr × Obj)} {s:Shared} {σ:St} {H F:Hp}
theorem reads_list {h:Heap} {a:Addr} {its:List Value} {xs:List PyData} {as:List Addr} (pl:h.IsList a its.toArray) (ra:ReadsAll h its xs as):Reads h (.ref a) (.list xs) (a::as):=by
 obtain ⟨o,h1,h2,n,h3⟩:=pl
 exact .list h1 h2 h3 ra
theorem reads_tup {h:Heap} {a:Addr} {its:List Value} {xs:List PyData} {as:List Addr} (pl:IsTup h a its.toArray) (ra:ReadsAll h its xs as):Reads h (.ref a) (.tuple xs) as:=by
 obtain ⟨o,h1,h2,n,h3⟩:=pl
 exact .tuple h1 h2 h3 ra
mutual
theorem reads_of (I:Inv X pins σ H s) (sm:Same F H):∀{d:D} {v:V} {u:Value},Rep X.K F d v->plain d=true->RelV v u->∃as,Reads s.heap u (toP d) as
 | _,_,_,.non,_,r=>by cases r;exact ⟨_,.none⟩
 | _,_,_,.bl b,_,r=>by cases r;exact ⟨_,.bool b⟩
 | _,_,_,.int i,_,r=>by obtain ⟨t,rfl⟩:=r;exact ⟨_,.int i t⟩
 | _,_,_,.str x,_,r=>by obtain ⟨t,rfl⟩:=r;exact ⟨_,.str x t⟩
 | _,_,_,.atom v,hp,_=>by simp [plain] at hp
 | _,_,_,.dic _ _ _,hp,_=>by simp [plain] at hp
 | _,_,_,.exc _,hp,_=>by simp [plain] at hp
 | _,_,_,.exb _,hp,_=>by simp [plain] at hp
 | _,_,_,.lst q rl,hp,r=>by
  cases r
  obtain ⟨its,rv,pl,_⟩:=I.list (.of (sm _ _ q))
  obtain ⟨as,ra⟩:=readsL_of I sm rl (by simpa only [plain] using hp) rv
  exact ⟨_,reads_list pl.isList ra⟩
 | _,_,_,.tup q rl,hp,r=>by
  cases r
  obtain ⟨its,rv,pl,_⟩:=I.tuple (.inl (.inl (sm _ _ q)))
  obtain ⟨as,ra⟩:=readsL_of I sm rl (by simpa only [plain] using hp) rv
  exact ⟨_,reads_tup pl ra⟩
 | _,_,_,.scr q,_,r=>by
  cases r
  obtain ⟨its,rv,pl,_⟩:=I.list (sm.seq q)
  obtain ⟨as,ra⟩:=reads_ints (h:=s.heap) rv
  exact ⟨_,reads_list pl.isList ra⟩
theorem readsL_of (I:Inv X pins σ H s) (sm:Same F H):∀{ds:List D} {vs:List V} {us:List Value},RepL X.K F ds vs->plains ds=true->Vals vs us->∃as,ReadsAll s.heap us (toPs ds) as
 | _,_,_,.nil,_,r=>by cases r;exact ⟨_,.nil⟩
 | _,_,_,.cons q rl,hp,r=>by
  cases r with
  | cons h1 t=>
   have hp':=hp
   simp only [plains,Bool.and_eq_true] at hp'
   obtain ⟨as,ra⟩:=reads_of I sm q hp'.1 h1
   obtain ⟨bs,rb⟩:=readsL_of I sm rl hp'.2 t
   exact ⟨_,.cons ra rb⟩
end
end
def shownL (ds:List D):Str:=(PyData.list (toPs ds)).shown
structure ShowOk (ds:List D):Prop where
 pl:plains ds=true
 sh:(PyData.list (toPs ds)).showable=true
 nd:(PyData.list (toPs ds)).hasDict=false
 dp:(PyData.list (toPs ds)).depth<=60
 sz:(shownL ds).length<=sizeLine
section
variable {X:Cx} {C:Pc} {a b c e:Expr} {ta:TQ} {tas:TAQ} {pos ps:Pos} {K:PySem.W.Frag}
def rRepr (K:PySem.W.Frag):List V->Hp->VK->Prop:=fun xs H Q=>∃(a:Addr) (vs:List V) (ds:List D) (F:Hp),xs=[.ref a]/\SqL K H a vs/\Same F H/\RepL K F ds vs/\ShowOk ds/\Q (.str (shownL ds)) H
theorem call_repr (hg:X.A.guards=some []) (hu:X.A.units+64<cLine):CallR X (.builtin "repr") (rRepr X.K):=by
 intro pins s σ H xs us Q I r h
 obtain ⟨a,vs,ds,F,rfl,hq,sm,rl,⟨hp,h1,h4,h3,h2⟩,q⟩:=h
 obtain ⟨u,rfl,ru⟩:=vals1 r
 cases ru
 obtain ⟨its,rv,pl,hz⟩:=I.list hq
 obtain ⟨as,ra⟩:=readsL_of I sm rl hp rv
 exact repr_of_reads' (reads_list pl.isList ra) h1 (PyData.noDict_hsm h4) hg (by omega) (fun _ _ e=>e) (fun h' u tk hk=>⟨.str _,H,I.kept hk,⟨_,rfl⟩,q⟩) h2
theorem call_reprK (h:X.K=K) (hg:X.A.guards=some []) (hu:X.A.units+64<cLine):CallR X (.builtin "repr") (rRepr K):=by subst h;exact call_repr hg hu
def qRepr (ta:TAQ):TQ:=fun p Q=>ta p fun es p1=>∃e ds,es=[e]/\lk p1 e=.lst ds/\ShowOk ds/\Q (.fz (.str (shownL ds))) p1
theorem cb_repr (hK:X.K=C.K) (hgd:X.A.guards=some []) (hu:X.A.units+64<cLine) (hg:Gl X "repr") (hm:X.mg "repr"=none) (ha:PA X [e] (UpA C tas)) (he:starEach [e] X.env=(false,eval e X.env)::starEach [] X.env:=by rfl):PE X (.Call (.Name "repr" ps) [e] [] pos) (Up C (qRepr tas)):=
 QE.mk (pe_callB (call_reprK hK hgd hu) hg hm (by kernel_rfl) ha (he:=he)) fun p σ F H R rs ht=>upA1 rs ht fun es1 p1 vs1 F1 H1 rs1 s1 sh er1 ⟨e1,ds,h1,h2,ok,q⟩=>by
  obtain ⟨v,rfl,er⟩:=evs1 er1 h1
  obtain ⟨a1,vs,rfl,g,r⟩:=ev_lst rs1 er h2
  exact ⟨a1,vs,ds,F1,rfl,.of g,rs1.sub,r,ok,fin_ev rs1 s1 sh (.str _) q⟩
end
theorem plains_ints:∀ns:List Int,plains (ns.map D.int)=true
 | []=>rfl
 | n::ns=>by simp only [List.map_cons,plains,plain,plains_ints ns,Bool.and_self]
theorem toPs_ints:∀ns:List Int,toPs (ns.map D.int)=ns.map PyData.int
 | []=>by simp only [List.map_nil,toPs]
 | n::ns=>by simp only [List.map_cons,toPs,toP,toPs_ints ns]
theorem showableAll_ints:∀{ns:List Int},(∀n∈ns,n.natAbs<10 ^ 41)->PyData.showableAll (ns.map PyData.int)=true
 | [],_=>by simp only [List.map_nil,PyData.showableAll]
 | n::ns,h=>by
  have h1:=h n (List.mem_cons_self ..)
  have h2:n.natAbs.log2<1920:=by
   by_cases z:n.natAbs=0
   ·rw [z];decide
   ·exact (Nat.log2_lt z).mpr (Nat.lt_of_lt_of_le h1 (by decide +kernel))
  simp only [List.map_cons,PyData.showableAll,PyData.showable,decide_eq_true h2,Bool.true_and]
  exact showableAll_ints fun m hm=>h m (List.mem_cons_of_mem _ hm)
theorem hasDictAll_ints:∀ns:List Int,PyData.hasDictAll (ns.map PyData.int)=false
 | []=>by simp only [List.map_nil,PyData.hasDictAll]
 | n::ns=>by simp only [List.map_cons,PyData.hasDictAll,PyData.hasDict,hasDictAll_ints ns,Bool.or_self]
theorem depthAll_ints:∀ns:List Int,PyData.depthAll (ns.map PyData.int)=0
 | []=>by simp only [List.map_nil,PyData.depthAll]
 | n::ns=>by simp only [List.map_cons,PyData.depthAll,PyData.depth,depthAll_ints ns,Nat.max_self]
theorem shownAll_ints:∀{ns:List Int},(∀n∈ns,n.natAbs<10 ^ 41)->((PyData.shownAll (ns.map PyData.int)).map (·.length)).sum<=42 * ns.length/\(PyData.shownAll (ns.map PyData.int)).length=ns.length
 | [],_=>by simp [PyData.shownAll]
 | n::ns,h=>by
  have h1:=int_text_length_le10 (k:=41) (by decide) (h n (List.mem_cons_self ..))
  have ih:=shownAll_ints fun m hm=>h m (List.mem_cons_of_mem _ hm)
  have e:(PyData.shown (.int n)).length=(toString n).length:=by
   simp only [PyData.shown]
   exact PySem.ofString_length _
  simp only [List.map_cons,PyData.shownAll,List.sum_cons,List.length_cons,e]
  omega
theorem show_ints {ns:List Int} (h:∀n∈ns,n.natAbs<10 ^ 41) (hl:ns.length<=5000):ShowOk (ns.map D.int):=by
 refine ⟨plains_ints ns,?_,?_,?_,?_⟩
 ·rw [toPs_ints];simp only [PyData.showable];exact showableAll_ints h
 ·rw [toPs_ints];simp only [PyData.hasDict];exact hasDictAll_ints ns
 ·rw [toPs_ints];simp only [PyData.depth,depthAll_ints];decide
 ·unfold shownL
  rw [toPs_ints]
  simp only [PyData.shown]
  have h1:=listText_len_le (PyData.shownAll (ns.map PyData.int))
  have h2:=shownAll_ints h
  rw [sizeLine_eq]
  omega
theorem eqd_l2 (ns:List Int) (x y:Int):EqDom (.lst (ns.map D.int)) (.lst [.int x,.int y])=True:=eq_true (.li ⟨ns,rfl⟩ ⟨[x,y],rfl⟩)
theorem deq_l2 (ns:List Int) (x y:Int):deq (.lst (ns.map D.int)) (.lst [.int x,.int y])=decide (ns=[x,y]):=deq_ints ns [x,y]
theorem eqd_l3 (ns:List Int) (x y z:Int):EqDom (.lst (ns.map D.int)) (.lst [.int x,.int y,.int z])=True:=eq_true (.li ⟨ns,rfl⟩ ⟨[x,y,z],rfl⟩)
theorem deq_l3 (ns:List Int) (x y z:Int):deq (.lst (ns.map D.int)) (.lst [.int x,.int y,.int z])=decide (ns=[x,y,z]):=deq_ints ns [x,y,z]
theorem eqd_l4 (ns:List Int) (x y z w:Int):EqDom (.lst (ns.map D.int)) (.lst [.int x,.int y,.int z,.int w])=True:=eq_true (.li ⟨ns,rfl⟩ ⟨[x,y,z,w],rfl⟩)
theorem deq_l4 (ns:List Int) (x y z w:Int):deq (.lst (ns.map D.int)) (.lst [.int x,.int y,.int z,.int w])=decide (ns=[x,y,z,w]):=deq_ints ns [x,y,z,w]
def RdV (K:PySem.W.Frag) (H:Hp) (d:D) (v:V):Prop:=∃F,Same F H/\(Rep K F d v\/∃(a:Addr) (vs:List V) (ds:List D),v=.ref a/\d=.lst ds/\H a=some (.lst vs)/\RepL K F ds vs)
section
variable {X:Cx} {C:Pc} {pins:List (Addr × Obj)} {s:Shared} {σ:St} {H F:Hp}
theorem RdV.reads {d:D} {v:V} {u:Value} (h:RdV X.K H d v) (I:Inv X pins σ H s) (hp:plain d=true) (r:RelV v u):∃as,Reads s.heap u (toP d) as:=by
 obtain ⟨F,sm,h|⟨a,vs,ds,rfl,rfl,q,rl⟩⟩:=h
 ·exact reads_of I sm h hp r
 ·cases r
  obtain ⟨its,rv,pl,_⟩:=I.list (.of q)
  obtain ⟨as,ra⟩:=readsL_of I sm rl (by simpa only [plain] using hp) rv
  exact ⟨_,by simp only [toP];exact reads_list pl.isList ra⟩
theorem ev_rd {p:PSt} {e:Ev} {v:V} (rs:RS C p σ F H) (er:EvR C.K p σ F e v):RdV C.K H (lk p e) v:=by
 cases e with
 | fz x=>exact ⟨F,rs.sub,.inl er⟩
 | ow i=>
  obtain ⟨⟨s,h1,m⟩,h2⟩:=er
  obtain ⟨w,e1,sr⟩:=rs.sl i s h1
  rw [h2] at e1;cases e1
  have el:lk p (.ow i)=s.val:=by show (match p[i]? with|some (some s)=>s.val|_=>.non)=_;rw [h1]
  rw [el]
  cases s with
  | d x=>cases m
  | own xs=>obtain ⟨a,vs,rfl,_,_,q,rl⟩:=sr;exact ⟨F,rs.sub,.inr ⟨a,vs,xs,rfl,rfl,q,rl⟩⟩
  | bor xs=>obtain ⟨a,vs,rfl,_,_,q,rl⟩:=sr;exact ⟨F,rs.sub,.inr ⟨a,vs,xs,rfl,rfl,q,rl⟩⟩
end
structure DOk (d:D):Prop where
 pl:plain d=true
 ly:(toP d).canLay0=true
 dp:(toP d).depth<=30
def deqv (x y:D):Bool:=PyData.eqv (toP x) (toP y)
section
variable {X:Cx} {C:Pc} {a b c e:Expr} {ta tb:TQ} {pos ps:Pos} {K:PySem.W.Frag}
def rEqD (K:PySem.W.Frag) (f:Bool->Bool):R2:=fun x y H Q=>∃dx dy,RdV K H dx x/\RdV K H dy y/\DOk dx/\DOk dy/\Q (.bl (f (deqv dx dy))) H
def rInD (K:PySem.W.Frag) (f:Bool->Bool):R2:=fun x y H Q=>∃dx ds,RdV K H dx x/\RdV K H (.lst ds) y/\DOk dx/\DOk (.lst ds)/\Q (.bl (f (ds.any fun z=>deqv z dx))) H
theorem op_eqD (hu:X.A.units+64<cLine):OpR X (compareOp .Eq) (rEqD X.K fun k=>k):=by
 intro pins s σ H x y v u Q I rx ry h
 obtain ⟨dx,dy,h1,h2,o1,o2,q⟩:=h
 obtain ⟨as,ra⟩:=h1.reads I o1.pl rx
 obtain ⟨bs,rb⟩:=h2.reads I o2.pl ry
 exact SeqAt.compareEq_reads ra rb o1.ly o2.ly (by have:=o1.dp;omega) ⟨.bl _,H,I,rfl,q⟩
theorem op_neD (hu:X.A.units+64<cLine):OpR X (compareOp .NotEq) (rEqD X.K fun k=>!k):=by
 intro pins s σ H x y v u Q I rx ry h
 obtain ⟨dx,dy,h1,h2,o1,o2,q⟩:=h
 obtain ⟨as,ra⟩:=h1.reads I o1.pl rx
 obtain ⟨bs,rb⟩:=h2.reads I o2.pl ry
 exact SeqAt.compareNe_reads ra rb o1.ly o2.ly (by have:=o1.dp;omega) ⟨.bl _,H,I,rfl,q⟩
theorem any_toPs {d:PyData}:∀ds:List D,(toPs ds).any (fun y=>PyData.eqv y d)=ds.any (fun z=>PyData.eqv (toP z) d)
 | []=>by simp only [toPs,List.any_nil]
 | x::xs=>by simp only [toPs,List.any_cons,any_toPs xs]
theorem op_inD (hu:X.A.units+64<cLine):OpR X (compareOp .In) (rInD X.K fun k=>k):=by
 intro pins s σ H x y v u Q I rx ry h
 obtain ⟨dx,ds,h1,h2,o1,o2,q⟩:=h
 obtain ⟨as,ra⟩:=h1.reads I o1.pl rx
 obtain ⟨bs,rb⟩:=h2.reads I o2.pl ry
 have ly:=o2.ly
 simp only [toP] at rb ly
 simp only [PyData.canLay0] at ly
 refine SeqAt.in_list_reads rb ra ly o1.ly (by have:=o1.dp;omega) ⟨.bl _,H,I,rfl,?_⟩
 rw [any_toPs]
 exact q
theorem op_eqDK (h:X.K=K) (hu:X.A.units+64<cLine):OpR X (compareOp .Eq) (rEqD K fun k=>k):=by subst h;exact op_eqD hu
theorem op_neDK (h:X.K=K) (hu:X.A.units+64<cLine):OpR X (compareOp .NotEq) (rEqD K fun k=>!k):=by subst h;exact op_neD hu
theorem op_inDK (h:X.K=K) (hu:X.A.units+64<cLine):OpR X (compareOp .In) (rInD K fun k=>k):=by subst h;exact op_inD hu
def qEqD (f:Bool->Bool) (ta tb:TQ):TQ:=fun p Q=>ta p fun e1 p1=>tb p1 fun e2 p2=>DOk (lk p2 e1)/\DOk (lk p2 e2)/\Q (.fz (.bl (f (deqv (lk p2 e1) (lk p2 e2))))) p2
def qInD (f:Bool->Bool) (ta tb:TQ):TQ:=fun p Q=>ta p fun e1 p1=>tb p1 fun e2 p2=>∃ds,lk p2 e2=.lst ds/\DOk (lk p2 e1)/\DOk (.lst ds)/\Q (.fz (.bl (f (ds.any fun z=>deqv z (lk p2 e1))))) p2
theorem q_eqD (hK:X.K=C.K) (hu:X.A.units+64<cLine) (ha:PE X a (Up C ta)) (hb:PE X b (Up C tb)):PE X (.Compare a [.Eq] [b] pos) (Up C (qEqD (fun k=>k) ta tb)):=
 QE.mk (pe_cmpR (op_eqDK hK hu) ha hb (nomark _)) fun p σ F H R rs ht=>up2 rs ht fun e1 e2 p1 v1 v2 F1 H1 rs1 s1 sh er1 er2 ⟨o1,o2,q⟩=>⟨_,_,ev_rd rs1 er1,ev_rd rs1 er2,o1,o2,fin_ev rs1 s1 sh (.bl _) q⟩
theorem t_neD (hK:X.K=C.K) (hu:X.A.units+64<cLine) (ha:PE X a (Up C ta)) (hb:PE X b (Up C tb)):PT X (.Compare a [.NotEq] [b] pos) (UpT C (qTest (qEqD (fun k=>!k) ta tb))):=
 QT.mk (pt_cmpR (op_neDK hK hu) ha hb (nomark _)) fun p σ F H R rs ht=>up2 rs ht fun e1 e2 p1 v1 v2 F1 H1 rs1 s1 sh er1 er2 ⟨o1,o2,k,hk,q⟩=>⟨_,_,ev_rd rs1 er1,ev_rd rs1 er2,o1,o2,k,by cases hk;rfl,p1,F1,rs1,s1,sh,q⟩
theorem t_inD (hK:X.K=C.K) (hu:X.A.units+64<cLine) (ha:PE X a (Up C ta)) (hb:PE X b (Up C tb)) (hm:behindInMarks .In b=false:=by rfl):PT X (.Compare a [.In] [b] pos) (UpT C (qTest (qInD (fun k=>k) ta tb))):=
 QT.mk (pt_cmpR (op_inDK hK hu) ha hb hm) fun p σ F H R rs ht=>up2 rs ht fun e1 e2 p1 v1 v2 F1 H1 rs1 s1 sh er1 er2 ⟨ds,hd,o1,o2,k,hk,q⟩=>⟨_,ds,ev_rd rs1 er1,by rw [<-hd];exact ev_rd rs1 er2,o1,o2,k,by cases hk;rfl,p1,F1,rs1,s1,sh,q⟩
end
theorem canLay_ints:∀ns:List Int,PyData.canLayAll0 (ns.map PyData.int)=true
 | []=>by simp only [List.map_nil,PyData.canLayAll0]
 | n::ns=>by simp only [List.map_cons,PyData.canLayAll0,PyData.canLay0,canLay_ints ns,Bool.and_self]
theorem dok_ints (ns:List Int):DOk (.lst (ns.map D.int)):=⟨by simp only [plain,plains_ints],by simp only [toP,toPs_ints,PyData.canLay0,canLay_ints],by simp only [toP,toPs_ints,PyData.depth,depthAll_ints];decide⟩
theorem eqvAll_ints:∀ns ms:List Int,PyData.eqvAll (ns.map PyData.int) (ms.map PyData.int)=decide (ns=ms)
 | [],[]=>by simp [PyData.eqvAll]
 | [],y::ys=>by simp [PyData.eqvAll]
 | x::xs,[]=>by simp [PyData.eqvAll]
 | x::xs,y::ys=>by
  simp only [List.map_cons,PyData.eqvAll,PyData.eqv,eqvAll_ints xs ys]
  by_cases h:x=y
  ·subst h;simp
  ·simp [h]
theorem deqv_ints (ns ms:List Int):deqv (.lst (ns.map D.int)) (.lst (ms.map D.int))=decide (ns=ms):=by
 unfold deqv
 simp only [toP,toPs_ints,PyData.eqv,eqvAll_ints]
end L2
namespace L2
open PySem
theorem ex_ss {a:Sl} {P:Sl->Prop}:(∃s,some (some a)=some (some s)/\P s)=P a:=propext ⟨fun ⟨s,e,h⟩=>by cases e;exact h,fun h=>⟨a,rfl,h⟩⟩
theorem ex_int {a:Int} {P:Int->Prop}:(∃i,D.int a=D.int i/\P i)=P a:=propext ⟨fun ⟨s,e,h⟩=>by cases e;exact h,fun h=>⟨a,rfl,h⟩⟩
theorem ex_int2 {a b:Int} {P:Int->Int->Prop}:(∃i j,D.int a=D.int i/\D.int b=D.int j/\P i j)=P a b:=propext ⟨fun ⟨s,t,e,e',h⟩=>by cases e;cases e';exact h,fun h=>⟨a,b,rfl,rfl,h⟩⟩
theorem ex_bl {a:Bool} {P:Bool->Prop}:(∃i,D.bl a=D.bl i/\P i)=P a:=propext ⟨fun ⟨s,e,h⟩=>by cases e;exact h,fun h=>⟨a,rfl,h⟩⟩
theorem ex_fz {a:D} {P:D->Prop}:(∃i,Ev.fz a=Ev.fz i/\P i)=P a:=propext ⟨fun ⟨s,e,h⟩=>by cases e;exact h,fun h=>⟨a,rfl,h⟩⟩
theorem ex_fzl {a:List D} {P:List D->Prop}:(∃i,Ev.fz (D.lst a)=Ev.fz (D.lst i)/\P i)=P a:=propext ⟨fun ⟨s,e,h⟩=>by cases e;exact h,fun h=>⟨a,rfl,h⟩⟩
theorem ex_some {α:Type} {a:α} {P:α->Prop}:(∃i,some a=some i/\P i)=P a:=propext ⟨fun ⟨s,e,h⟩=>by cases e;exact h,fun h=>⟨a,rfl,h⟩⟩
theorem ex_lst {a:List D} {P:List D->Prop}:(∃i,D.lst a=D.lst i/\P i)=P a:=propext ⟨fun ⟨s,e,h⟩=>by cases e;exact h,fun h=>⟨a,rfl,h⟩⟩
theorem ex_own {a:List D} {P:List D->Prop}:(∃i,some (some (Sl.own a))=some (some (Sl.own i))/\P i)=P a:=propext ⟨fun ⟨s,e,h⟩=>by cases e;exact h,fun h=>⟨a,rfl,h⟩⟩
theorem ex_tup {a:List D} {P:List D->Prop}:(∃i,D.tup a=D.tup i/\P i)=P a:=propext ⟨fun ⟨s,e,h⟩=>by cases e;exact h,fun h=>⟨a,rfl,h⟩⟩
theorem ex_e1 {α:Sort _} {a:Ev} {P:Ev->α->Prop}:(∃e x,[a]=[e]/\P e x)=∃x,P a x:=propext ⟨fun ⟨s,x,e,h⟩=>by cases e;exact ⟨x,h⟩,fun ⟨x,h⟩=>⟨a,x,rfl,h⟩⟩
theorem ss_and {α:Type} {a:α} {P:Prop}:(a=a/\P)=P:=by simp
end L2
namespace L2
open PySem PySem.Spec PyProof.Rows
section
variable {X:Cx} {C:Pc} {a b c e o:Expr} {ta tb to:TQ} {tas:TAQ} {pos ps ps2 apos:Pos} {K:PySem.W.Frag} {F:Hp} {tg:Expr}
theorem RepL.strs:∀{ts:List Str} {vs:List V},RepL K F (ts.map D.str) vs->vs=ts.map V.str
 | [],_,.nil=>rfl
 | _::r,_,.cons q t=>by
  cases q
  rw [List.map_cons,RepL.strs (ts:=r) t]
theorem RepL.of_strs:∀(ts:List Str),RepL K F (ts.map D.str) (ts.map V.str)
 | []=>.nil
 | t::r=>.cons (.str t) (RepL.of_strs r)
def qStrI (ta:TAQ):TQ:=fun p Q=>ta p fun es p1=>∃e i,es=[e]/\lk p1 e=.int i/\i.natAbs.log2<1920/\Q (.fz (.str (toString i))) p1
theorem cb_strI (hg:Gl X "str") (hm:X.mg "str"=none) (ha:PA X [e] (UpA C tas)) (he:starEach [e] X.env=(false,eval e X.env)::starEach [] X.env:=by rfl):PE X (.Call (.Name "str" ps) [e] [] pos) (Up C (qStrI tas)):=
 QE.mk (pe_callTy call_str_int hg hm (by kernel_rfl) ha (he:=he)) fun p σ F H R rs ht=>upA1 rs ht fun es1 p1 vs1 F1 H1 rs1 s1 sh er1 ⟨e1,i,h1,h2,h3,q⟩=>by
  obtain ⟨v,rfl,er⟩:=evs1 er1 h1
  exact ⟨i,by rw [ev_int er h2],h3,fin_ev rs1 s1 sh (.str _) q⟩
def qLenS (ta:TAQ):TQ:=fun p Q=>ta p fun es p1=>∃e z,es=[e]/\lk p1 e=.str z/\z.length<=100000/\Q (.fz (.int z.length)) p1
theorem cb_lenS (hg:Gl X "len") (hm:X.mg "len"=none) (ha:PA X [e] (UpA C tas)) (he:starEach [e] X.env=(false,eval e X.env)::starEach [] X.env:=by rfl):PE X (.Call (.Name "len" ps) [e] [] pos) (Up C (qLenS tas)):=
 QE.mk (pe_callB call_len_str hg hm PySem.boot_len ha (he:=he)) fun p σ F H R rs ht=>upA1 rs ht fun es1 p1 vs1 F1 H1 rs1 s1 sh er1 ⟨e1,z,h1,h2,h3,q⟩=>by
  obtain ⟨v,rfl,er⟩:=evs1 er1 h1
  exact ⟨z,by rw [ev_str er h2],line_of h3,fin_ev rs1 s1 sh (.int _) q⟩
def inS (x y:Str):Bool:=!(Builtin.Str.occurrences y x 0 y.length 1).isEmpty
def qInS (f:Bool->Bool) (ta tb:TQ):TQ:=fun p Q=>ta p fun e1 p1=>tb p1 fun e2 p2=>∃x y,lk p2 e1=.str x/\lk p2 e2=.str y/\Q (.fz (.bl (f (inS x y)))) p2
theorem t_notInS (ha:PE X a (Up C ta)) (hb:PE X b (Up C tb)) (hm:behindInMarks .NotIn b=false:=by rfl):PT X (.Compare a [.NotIn] [b] pos) (UpT C (qTest (qInS (fun k=>!k) ta tb))):=
 QT.mk (pt_cmpR op_notIn_str ha hb hm) fun p σ F H R rs ht=>up2 rs ht fun e1 e2 p1 v1 v2 F1 H1 rs1 s1 sh er1 er2 ⟨x,y,h1,h2,k,hk,q⟩=>⟨x,y,ev_str er1 h1,ev_str er2 h2,k,by cases hk;rfl,p1,F1,rs1,s1,sh,q⟩
def qIxS (ta tb:TQ):TQ:=fun p Q=>ta p fun e1 p1=>tb p1 fun e2 p2=>∃z k c,lk p2 e1=.str z/\lk p2 e2=.int k/\z.length<=100000/\atI z.cps.toList k=some c/\Q (.fz (.str ⟨#[c]⟩)) p2
theorem q_ixS (ha:PE X a (Up C ta)) (hb:PE X b (Up C tb)) (hs:PlainIx b):PE X (.Subscript a b pos) (Up C (qIxS ta tb)):=
 QE.mk (pe_ix ix_str ha hb hs) fun p σ F H R rs ht=>up2 rs ht fun e1 e2 p1 v1 v2 F1 H1 rs1 s1 sh er1 er2 ⟨z,k,c,h1,h2,h3,h4,q⟩=>by
  rw [ev_str er1 h1,ev_int er2 h2]
  exact ⟨z,k,c,rfl,rfl,line_of h3,h4,fin_ev rs1 s1 sh (.str _) q⟩
def qJoin (to:TQ) (ta:TAQ):TQ:=fun p Q=>to p fun e1 p1=>(∃z,lk p1 e1=.str z)/\ta p1 fun es p2=>∃(e2:Ev) (z:Str) (ts:List Str),es=[e2]/\lk p2 e1=.str z/\lk p2 e2=.lst (ts.map D.str)/\JoinOk z ts=true/\Q (.fz (.str (Txt.join z ts))) p2
theorem m_join (hK:X.K=C.K) (ho:PE X o (Up C to)) (ha:PA X [e] (UpA C tas))
  (hbase:attributeBase o "join" X.env (eval o X.env)=eval o X.env:=by rfl)
  (hfew:((backTo pos (starEach [e] X.env)).all (fun x=>!x.1) && (backToKw pos (keywordEach [] X.env)).all (fun x=>x.1.isSome)
   && decide ([e].length+([]:List Keyword).length+(if ([]:List Keyword).isEmpty then 0 else 1)<30))=true:=by rfl)
  (hline:(apos.endLine == pos.line)=true:=by rfl) (hs:starEach [e] X.env=(false,eval e X.env)::starEach [] X.env:=by rfl):PE X (.Call (.Attribute o "join" apos) [e] [] pos) (Up C (qJoin to tas)):=by
 refine QE.mk (pe_bm PySem.F.plainAttrs_str PySem.F.slot_str_join PySem.F.type_str_join (mt_joinK hK) ho ha hbase hfew hline hs rfl) fun p σ F H R rs ht=>?_
 rw [hK]
 refine up1 rs ht fun e1 p1 v1 F1 H1 rs1 s1 sh er1 ⟨⟨z,hz⟩,ht⟩=>?_
 rw [ev_str er1 hz]
 refine ⟨rfl,upA1 rs1 ht fun es2 p2 vs2 F2 H2 rs2 s2 sh2 er2 ⟨e2,z',ts,h2,h3,h4,ok,q⟩=>?_⟩
 obtain ⟨v,rfl,er⟩:=evs1 er2 h2
 obtain ⟨a1,vs,rfl,g,r⟩:=ev_lst rs2 er h4
 rw [r.strs] at g
 have e3:=ev_str (er1.mono s2 sh2) h3
 rw [ev_str er1 hz] at e3
 cases e3
 exact ⟨z,a1,ts,rfl,rfl,.of g,ok,fin_ev rs2 (s1.trans s2) (sh.trans sh2) (.str _) q⟩
def nSplit (to:TQ) (ta:TAQ):TN:=fun p Q=>to p fun e1 p1=>(∃z,lk p1 e1=.str z)/\ta p1 fun es p2=>∃(e2:Ev) (z y:Str),es=[e2]/\lk p2 e1=.str z/\lk p2 e2=.str y/\(y.length == 0)=false/\z.length<=100000/\(Txt.split z y).length<=100000/\Q (.ro ((Txt.split z y).map D.str)) p2
theorem n_split (hK:X.K=C.K) (ho:PE X o (Up C to)) (ha:PA X [e] (UpA C tas))
  (hbase:attributeBase o "split" X.env (eval o X.env)=eval o X.env:=by rfl)
  (hfew:((backTo pos (starEach [e] X.env)).all (fun x=>!x.1) && (backToKw pos (keywordEach [] X.env)).all (fun x=>x.1.isSome)
   && decide ([e].length+([]:List Keyword).length+(if ([]:List Keyword).isEmpty then 0 else 1)<30))=true:=by rfl)
  (hline:(apos.endLine == pos.line)=true:=by rfl) (hs:starEach [e] X.env=(false,eval e X.env)::starEach [] X.env:=by rfl):PE X (.Call (.Attribute o "split" apos) [e] [] pos) (UpN C (nSplit to tas)):=by
 refine QN.mk (pe_bm PySem.F.plainAttrs_str PySem.F.slot_str_split PySem.F.type_str_split mt_split ho ha hbase hfew hline hs rfl) fun p σ F H R rs ht=>?_
 rw [hK]
 refine up1 rs ht fun e1 p1 v1 F1 H1 rs1 s1 sh er1 ⟨⟨z,hz⟩,ht⟩=>?_
 rw [ev_str er1 hz]
 refine ⟨rfl,upA1 rs1 ht fun es2 p2 vs2 F2 H2 rs2 s2 sh2 er2 ⟨e2,z',y,h2,h3,h4,k1,k2,k3,q⟩=>?_⟩
 obtain ⟨v,rfl,er⟩:=evs1 er2 h2
 have e3:=ev_str (er1.mono s2 sh2) h3
 rw [ev_str er1 hz] at e3
 cases e3
 exact ⟨z,y,rfl,by rw [ev_str er h4],k1,k2,k3,fun l hl=>fin_new rs2 (s1.trans s2) (sh.trans sh2) hl (RepL.of_strs _) q⟩
def iqS (ta:TQ):TIQ:=fun p Q=>ta p fun e p1=>∃x:Str,lk p1 e=.str x/\x.cps.all (·<128)=true/\Q x.cps.size (fun i=>.str ⟨#[x.cps.getD i 0]⟩) p1
theorem jq_str (x:Str):JQ K (Its x) x.cps.size (fun i=>.str ⟨#[x.cps.getD i 0]⟩) F:=⟨fun i F H _ _ h=>h,fun i F H v H' _ _ hi ⟨h1,c,h2,h3⟩=>by
 subst h1 h3
 have e:x.cps.getD i 0=c:=by rw [Array.getD_eq_getD_getElem?,h2];rfl
 exact .inl ⟨rfl,by rw [e];exact .str _⟩,fun _ _ _ _=>Nat.le_refl _⟩
theorem i_str (ha:PE X a (Up C ta)):PI X tg a (UpI C (iqS ta)):=
 QI.mk (pi_str ha) fun p σ F H R rs ht=>up1 rs ht fun e1 p1 v1 F1 H1 rs1 s1 sh er1 ⟨x,h1,h2,q⟩=>⟨x,ev_str er1 h1,h2,_,_,p1,F1,rs1,s1,sh,jq_str x,q⟩
end
abbrev XSp:=List Sl->Addr->Prop
def spX (K:PySem.W.Frag) (S:XSp):Sp:=fun vs H _ E=>∃as F Cl,Same F H/\ArgsR K F H as vs/\S as Cl/\∀F' H',Post K F H as vs (.rd .non) as .non F' H'->E (.ref Cl) none H'
def GX (C:Pc) (XE:Addr->PSt->Prop):Addr->St->Hp->Prop:=fun Cl σ H=>∃p F,RS C p σ F H/\XE Cl p
def Pc.at (C:Pc) (F0:Hp):Pc:={ C with F0:=F0 }
section
variable {X:Cx} {C:Pc} {a b c e:Expr} {ta tb:TQ} {pos np cpos p0:Pos} {p:PSt} {σ:St} {F H:Hp} {st:Stmt} {rest:List Stmt} {es:List Expr} {tas:TAQ} {XE:Addr->PSt->Prop} {x:Str} {t:TSQ}
theorem RS.at (rs:RS C p σ F H):RS (C.at F) p σ F H:=⟨rs.sub,.refl _,fun _ _ h=>.inl h,rs.keep,rs.grow,rs.len,fun i s h=>rs.sl i s h,rs.apart,rs.pin⟩
theorem RS.unat {p':PSt} {σ':St} {F' H':Hp} (rs:RS C p σ F H) (rs':RS (C.at F) p' σ' F' H'):RS C p' σ' F' H'/\Same F F':=
 ⟨⟨rs'.sub,rs.ext.trans rs'.ext,fun a o h=>by
   rcases rs'.new a o h with z|z|z
   ·exact rs.new a o z
   ·exact .inr (.inl z)
   ·exact .inr (.inr z),rs'.keep,rs'.grow,rs'.len,fun i s h=>rs'.sl i s h,rs'.apart,rs'.pin⟩,rs'.ext⟩
def nCallX (S:XSp) (XE:Addr->PSt->Prop) (t:TAQ):TN:=fun p _=>t p fun es p1=>∃as Cl,argsOf p1 es=some as/\(owIx es).Nodup/\S as Cl/\XE Cl (back p1 es as)
theorem n_callX {ps:List Str} {k:Nat} {S:XSp} (hK:X.K=C.K) (D:DefAt X.K X.mg x st ps) (G:FnOk X.prog X.w X.K X.mg X.base (CXX X.prog X.w) k D.f D.fd ps (spX X.K S)) (hr:Room k X.A) (lk:LnkG X (GX C XE)) (ha:PA X (e::es) (UpA C tas))
  (hg:Gl X x:=by rfl) (hdb:(x == ("__debug__":Str))=false:=by decide) (he:starEach (e::es) X.env=(false,eval e X.env)::starEach es X.env:=by rfl) (hpl:(backTo pos (starEach es X.env)).any (·.1)=false:=by rfl) :
  PE X (.Call (.Name x p0) (e::es) [] pos) (UpN C (nCallX S XE tas)):=
 QN.mk (pe_callX D G hr lk ha hg hdb he hpl) fun p σ F H R rs ht=>upA1 rs ht fun es1 p1 vs1 F1 H1 rs1 s1 sh er1 ⟨as,Cl,h1,nd,hS,q⟩=>by
  rw [hK]
  exact ⟨as,F1,Cl,rs1.sub,(args_ok rs1 er1 h1 nd).1,hS,fun F' H' po=>⟨Cl,rfl,_,F',(rs1.call er1 h1 nd po).1,q⟩⟩
def qRaise (XE:Addr->PSt->Prop) (Cl:Addr) (t:TAQ):TSQ:=fun _ p=>t p fun es p1=>es.length<=9/\XE Cl p1
theorem s_raise {Cl:Addr} (c:XCl X.K X.mg x Cl) (hc:X.calm=true) (lk:LnkR X (GX C XE)) (ha:PA X (e::es) (UpA C tas))
  (hg:Gl X x:=by rfl) (hdb:(x == ("__debug__":Str))=false:=by decide) (he:starEach (e::es) X.env=(false,eval e X.env)::starEach es X.env:=by rfl) (hpl:(backTo cpos (starEach es X.env)).any (·.1)=false:=by rfl) :
  PS X (.Raise (some (.Call (.Name x np) (e::es) [] cpos)) none pos) (UpS C (qRaise XE Cl tas)):=
 QS.mk (ps_raise c hc lk ha hg hdb he hpl) fun p σ F H E rs ht=>upA1 rs ht fun es1 p1 vs1 F1 H1 rs1 s1 sh er1 ⟨hl,q⟩=>⟨by
  rw [<-(evs_get er1).1];exact Nat.le_trans hl (by decide),_,F1,rs1,q⟩
def PEnds.goes (E:PEnds) (i:Nat):PEnds:=⟨fun p=>nbr p i=true/\E.nx (p.set i none),fun r p=>E.rt r p,fun p=>nbr p i=true/\E.bk (p.set i none),fun p=>nbr p i=true/\E.ct (p.set i none)⟩
def qTry (K:PySem.W.Frag) (D i:Nat) (tb:(Addr->PSt->Prop)->TSQ) (th:TSQ):TSQ:=fun E p=>
 tb (fun Cl p1=>PySem.W.subIn K (.ref Cl) (.ref D)=some true/\nbr p1 i=true/\th (E.goes i) (p1.set i (some (.d (.exc Cl))))) E p
theorem RS.gone {i:Nat} (rs:RS C p σ F H) (h:nbr p i=true):RS C (p.set i none) (σ.set i none) F H:=by
 have rc:=rs.clear h
 have ni:∀(j:Nat) (s:Sl),(p.set i none)[j]? = some (some s)->j≠i:=fun j s e z=>by
  subst z
  by_cases hl:j<p.length
  ·rw [List.getElem?_set_self hl] at e;cases e
  ·rw [List.getElem?_eq_none (by rw [List.length_set];omega)] at e;cases e
 refine ⟨rc.sub,rc.ext,rc.new,rc.keep,rc.grow,by rw [rc.len,List.length_set],fun j s e=>?_,fun j k s s' a hjk e1 m1 e2 m2 x1 x2=>?_,fun q hq=>?_⟩
 ·obtain ⟨v,h1,h2⟩:=rc.sl j s e
  exact ⟨v,by rw [List.getElem?_set_ne (Ne.symm (ni j s e))];exact h1,h2⟩
 ·rw [List.getElem?_set_ne (Ne.symm (ni j s e1))] at x1
  rw [List.getElem?_set_ne (Ne.symm (ni k s' e2))] at x2
  exact rc.apart j k s s' a hjk e1 m1 e2 m2 x1 x2
 ·obtain ⟨h1,xs,h2⟩:=rc.pin q hq
  exact ⟨by rw [List.getElem?_set_ne (Ne.symm (ni q.1 _ h2))];exact h1,xs,h2⟩
theorem s_try {body suite:List Stmt} {b₀:Stmt} {n:Str} {D:Addr} {i:Nat} {hpos:Pos} {tb:(Addr->PSt->Prop)->TSQ} {th:TSQ} (c:XCl X.K X.mg x D) (hN:X.N.Nodup) (hi:X.N[i]? = some n) (hn:X.env.scope.names.lookup n=some .local)
  (hb:∀(F0:Hp) (pins:List (Addr × Obj)) (E:Value->Shared->Prop) (XE:Addr->PSt->Prop),LnkG (X.held pins E) (GX (C.at F0) XE)->PSs (X.held pins E) body (UpS (C.at F0) (tb XE)))
  (hh:∀(F0:Hp) (pins:List (Addr × Obj)) (A:Around),PSs (X.suite pins A) (b₀::suite) (UpS (C.at F0) th))
  (hg:Gl X x:=by rfl) (hdb:(x == ("__debug__":Str))=false:=by decide) (hs:X.stack=X.env::X.outer:=by rfl) (hL:X.env.frame=some X.env.locals:=by rfl) (hx:X.ex=[]:=by rfl) :
  PS X (.Try body [.ExceptHandler (some (.Name x np)) (some n) (b₀::suite) hpos] [] [] pos) (UpS C (qTry X.K D i tb th)):=by
 intro pins s σ H De I ⟨p,F,E,rs,ht,l⟩
 refine thn (try_ok (D:=E.dn C F) (G:=GX (C.at F) fun Cl p1=>PySem.W.subIn X.K (.ref Cl) (.ref D)=some true/\nbr p1 i=true/\th (E.goes i) (p1.set i (some (.d (.exc Cl))))) c hN hi hn hs hL hx I (fun E' lk=>⟨_,hb F pins E' _ lk,p,F,E,rs.at,ht,?_⟩) (fun Ca σ' H' ⟨p',F',rs',hsub,hbr,hth⟩=>⟨hsub,fun a ha=>⟨_,hh F pins _,p'.set i (some (.d (.exc Ca))),upd F' a (XO a Ca),E.goes i,?_,hth,?_⟩⟩) hg hdb) fun _ _ q=>q.le l
 ·exact ⟨fun σ1 H1 ⟨p1,F1,r1,s1,q1⟩=>⟨p1,F1,(rs.unat r1).1,s1,q1⟩,fun v H1 ⟨r,p1,σ1,F1,r1,s1,rr,q1⟩=>⟨r,p1,σ1,F1,(rs.unat r1).1,s1,by cases r<;>exact rr,q1⟩,fun σ1 H1 ⟨p1,F1,r1,s1,q1⟩=>⟨p1,F1,(rs.unat r1).1,s1,q1⟩,fun σ1 H1 ⟨p1,F1,r1,s1,q1⟩=>⟨p1,F1,(rs.unat r1).1,s1,q1⟩⟩
 ·exact (rs'.put ha).setD hbr (.exc upd_same)
 ·have sF:∀{F1:Hp},Same (upd F' a (XO a Ca)) F1->Same F F1:=fun {F1} z=>rs'.ext.trans ((same_upd (rs'.free ha).1 _).trans z)
  refine ⟨fun σ1 H1 ⟨p1,F1,r1,s1,nb,q1⟩=>⟨_,F1,(rs.unat r1).1.gone nb,sF s1,q1⟩,fun v H1 ⟨r,p1,σ1,F1,r1,s1,rr,q1⟩=>⟨r,p1,σ1,F1,(rs.unat r1).1,sF s1,by cases r<;>exact rr,q1⟩,fun σ1 H1 ⟨p1,F1,r1,s1,nb,q1⟩=>⟨_,F1,(rs.unat r1).1.gone nb,sF s1,q1⟩,fun σ1 H1 ⟨p1,F1,r1,s1,nb,q1⟩=>⟨_,F1,(rs.unat r1).1.gone nb,sF s1,q1⟩⟩
end
section
variable {P:Program} {w:World} {K:PySem.W.Frag} {mg:Str->Option Value} {base:Heap}
theorem Fun.okX {x qual:Str} {st:Stmt} {f:Addr} {fd:FuncData} {N ps:List Str} {k:Nat} {S:XSp} (Fn:Fun K x qual st f fd) (Sc:FnScope N ps (defScope st)) (len:∀as Cl,S as Cl->as.length=ps.length/\∀(i:Nat) (s:Sl),as[i]? = some s->∃d,s=.d d)
  (hbody:∀(cdv:Value) (A:Around) (outer:List Env) (s:Shared) (H:Hp) (E:XK) (C:Pc) (as:List Sl) (Cl:Addr) (XE:Addr->PSt->Prop),K=C.K->Room k (A.deeper (envOfC qual (defScope st) s.heap.objs.size f cdv))->S as Cl->(XE=fun c _=>c=Cl)->
   LnkG (cxOf (CXX P w) P w K mg base N qual (defScope st) f cdv A outer s H E) (GX C XE)->LnkR (cxOf (CXX P w) P w K mg base N qual (defScope st) f cdv A outer s H E) (GX C XE)->
   ∃t,PSs (cxOf (CXX P w) P w K mg base N qual (defScope st) f cdv A outer s H E) (defBody st) (UpS C t)/\t { nx:=fun _=>False,rt:=fun _ _=>False } (startP N as)):FnOk P w K mg base (CXX P w) (k+1) f fd ps (spX K S):=by
 obtain ⟨oc,od,kV,doc,pm,an,cdv,ct,osl,rfl,lk,hcd⟩:=Fn.ex
 refine fn_of lk hcd Sc (fun vs H Q E ⟨as,F,Cl,_,h2,h3,_⟩=>by rw [<-h2.len];exact (len as Cl h3).1) fun A outer s H vs Q E hr ⟨as,F,Cl,sFH,ar,hS,hq⟩=>?_
 have al:=(len as Cl hS).2
 have post:∀{p1:PSt} {σ1:St} {F1 H1:Hp},RS ⟨K,F,H,[]⟩ p1 σ1 F1 H1->E (.ref Cl) none H1:=fun {p1 σ1 F1 H1} rs1=>by
  refine hq F1 H1 ⟨rs1.ext,rs1.sub,rs1.new,fun a o h _=>rs1.keep a o h (fun q hq=>by cases hq),rs1.grow,fun i xs h=>?_,.non⟩
  obtain ⟨d,e⟩:=al i _ h
  cases e
 obtain ⟨t,ht,tq⟩:=hbody cdv A outer s H E ⟨K,F,H,[]⟩ as Cl _ rfl hr hS rfl
  (fun pins σ H1 s1 H' s' a C' I I' tr ⟨p1,F1,rs1,e⟩=>by subst e;exact pass_leave I I' tr (post rs1))
  (fun pins σ H1 s1 s' a C' args I m e0 ⟨p1,F1,rs1,e⟩=>by subst e;exact raise_leave (t:=a) I m e0 (post rs1))
 have getP:∀(i:Nat) (s:Sl),(startP N as)[i]? = some (some s)->as[i]? = some s:=fun i s h=>by
  unfold startP at h
  by_cases hi:i<as.length
  ·rw [List.getElem?_append_left (by simpa using hi)] at h
   simpa using h
  ·rw [List.getElem?_append_right (by simpa using Nat.le_of_not_lt hi),List.getElem?_replicate] at h
   split at h<;>cases h
 have rs:RS ⟨K,F,H,[]⟩ (startP N as) (start N vs) F H:=by
  refine ⟨sFH,.refl _,fun a o h=>.inl h,fun a o h _=>h,fun a h=>h,?_,fun i s h=>?_,fun i j s s' a hij e1 m1 e2 m2 x1 x2=>?_,fun q hq=>by cases hq⟩
  ·unfold startP start
   rw [List.length_append,List.length_append,List.length_map,List.length_map,List.length_replicate,List.length_replicate,ar.len]
  ·have h':=getP i s h
   obtain ⟨v,h1,h2⟩:=ar.at_ i s h'
   obtain ⟨d,rfl⟩:=al i s h'
   refine ⟨v,?_,h2⟩
   unfold start
   have hi:=(List.getElem?_eq_some_iff.mp h1).1
   rw [List.getElem?_append_left (by simpa using hi)]
   simpa using h1
  ·obtain ⟨d,rfl⟩:=al i s (getP i s e1)
   cases m1
 exact ⟨_,ht,startP N as,F,_,rs,tq,⟨fun _ _ ⟨_,_,_,_,z⟩=>z.elim,fun _ _ ⟨_,_,_,_,_,_,_,z⟩=>z.elim,fun _ _ ⟨_,_,_,_,z⟩=>z.elim,fun _ _ ⟨_,_,_,_,z⟩=>z.elim⟩⟩
end
def tyD:D->Option Value
 | .non=>some (.type "NoneType")
 | .bl _=>some (.type "bool")
 | .int _=>some (.type "int")
 | .str _=>some (.type "str")
 | .lst _=>some (.type "list")
 | .tup _=>some (.type "tuple")
 | .dic _ _=>some (.type "dict")
 | .exc C=>some (.ref C)
 | .exb=>some (.type "ValueError")
 | _=>none
def xfD (K:PySem.W.Frag):D->Prop
 | .exc C=>XF K C
 | _=>True
section
variable {X:Cx} {C:Pc} {a b c e:Expr} {pos ps:Pos} {p:PSt} {σ:St} {F H:Hp} {tas:TAQ}
theorem ev_exc {e:Ev} {v:V} {Cl:Addr} (rs:RS C p σ F H) (er:EvR C.K p σ F e v) (h:lk p e=.exc Cl):∃a,v=.ref a/\H a=some (XO a Cl):=by
 cases e with
 | fz x=>
  have h:x=.exc Cl:=h
  subst h
  cases (show Rep C.K F (.exc Cl) v from er) with
  | exc q=>exact ⟨_,rfl,rs.sub _ _ q⟩
 | ow i=>
  exfalso
  unfold lk at h
  cases hp:p[i]? with
  | none=>simp [hp] at h
  | some o=>
   cases o with
   | none=>simp [hp] at h
   | some s=>
    simp [hp] at h
    have m:=er.1
    cases s with
    | d x=>
     obtain ⟨w,h1,h2⟩:=m
     rw [hp] at h1;cases h1
     cases h2
    | own xs=>cases h
    | bor xs=>cases h
theorem tyD_ok {e1:Ev} {v:V} {t:Value} (rs:RS C p σ F H) (er:EvR C.K p σ F e1 v) (h:tyD (lk p e1)=some t) (hx:xfD C.K (lk p e1)):TyX C.K H v t:=by
 cases e:lk p e1 with
 | int i=>rw [e] at h;cases h;rw [ev_int er e];exact .inl (.int _)
 | bl i=>rw [e] at h;cases h;rw [ev_bl er e];exact .inl (.bl _)
 | lst xs=>rw [e] at h;cases h;obtain ⟨a1,vs,rfl,g,r⟩:=ev_lst rs er e;exact .inl (.lst g)
 | tup xs=>rw [e] at h;cases h;obtain ⟨a1,vs,rfl,g,r⟩:=ev_tup rs er e;exact .inl (.tup g)
 | str x=>rw [e] at h;cases h;rw [ev_str er e];exact .inl (.str _)
 | non=>rw [e] at h;cases h;rw [ev_non er e];exact .inl .non
 | dic ks ds=>rw [e] at h;cases h;obtain ⟨a1,vs,rfl,g,l,r⟩:=ev_dic rs er e;exact .inl (.dK g)
 | exc Cl=>rw [e] at h hx;cases h;obtain ⟨a1,rfl,g⟩:=ev_exc rs er e;exact .inr ⟨a1,Cl,rfl,.inl ⟨g,rfl,hx⟩⟩
 | exb=>rw [e] at h;cases h;obtain ⟨a1,rfl,g⟩:=ev_exb rs er e;exact .inr ⟨a1,a1,rfl,.inr ⟨g,rfl⟩⟩
 | _=>rw [e] at h;cases h
def qIsX (K:PySem.W.Frag) (y:V) (c:Value) (ta:TAQ):TQ:=fun p Q=>ta p fun es p1=>∃e f t k,es=[e,f]/\lk p1 f=.atom y/\tyD (lk p1 e)=some t/\xfD K (lk p1 e)/\PySem.W.kitOne K t c=some k/\Q (.fz (.bl k)) p1
theorem cb_isX {y:V} {c:Value} (hK:X.K=C.K) (hc:∀u,RelV y u->u=c) (hg:Gl X "isinstance") (hm:X.mg "isinstance"=none) (ha:PA X [a,b] (UpA C tas)) (he:starEach [a,b] X.env=(false,eval a X.env)::starEach [b] X.env:=by rfl) (hpl:(backTo pos (starEach [b] X.env)).any (·.1)=false:=by rfl) :
  PE X (.Call (.Name "isinstance" ps) [a,b] [] pos) (Up C (qIsX C.K y c tas)):=
 QE.mk (pe_callB (call_isX hK) hg hm (by kernel_rfl) ha (he:=he) (hpl:=hpl)) fun p σ F H R rs ht=>upA1 rs ht fun es1 p1 vs1 F1 H1 rs1 s1 sh er1 ⟨e1,e2,t,k,h0,h1,h2,hx,hk,q⟩=>by
  obtain ⟨v,z,rfl,er,er'⟩:=evs2 er1 h0
  exact ⟨v,z,c,t,k,rfl,by rw [ev_atom er' h1];exact hc,tyD_ok rs1 er h2 hx,hk,fin_ev rs1 s1 sh (.bl _) q⟩
def rIsXs (K:PySem.W.Frag):List V->Hp->VK->Prop:=fun vs H Q=>∃(v:V) (tp:Addr) (cs:List Addr) (t:Value) (k:Bool),vs=[v,.ref tp]/\H tp=some (.tup (cs.map V.ref))/\TyX K H v t/\PySem.W.kitAny K t (cs.map Value.ref)=some k/\Q (.bl k) H
theorem vals_ref1:∀{cs:List Addr} {us:List Value},Vals (cs.map V.ref) us->us=cs.map Value.ref
 | [],_,r=>by cases r;rfl
 | c::cs,_,r=>by
  cases r with
  | cons h t=>rw [List.map_cons,vals_ref1 t,show _=Value.ref c from h]
theorem call_isXs (hK:X.K=C.K):CallR X (.builtin "isinstance") (rIsXs C.K):=fun pins s σ H vs us Q I r ⟨v,tp,cs,t,k,e,htp,ty,ek,q⟩=>by
 subst e
 cases r with
 | cons r1 r2=>
  cases r2 with
  | cons r3 r4=>
   cases r4
   cases (show _=Value.ref tp from r3)
   rw [<-hK] at ty ek
   obtain ⟨_,its,rv,o,ho,hoc,n,hod⟩:=(show ObjOk X.prog X.w H s.heap tp (.tup (cs.map V.ref)) from I.hok tp _ htp)
   obtain ⟨oc,dd,od,sl⟩:=o
   simp only at hoc hod
   subst hoc hod
   rw [<-vals_ref1 rv] at ek
   have fin:∀tk,EP X pins σ Q (.bool k) { s with toks:=tk }:=fun tk=>⟨.bl k,H,I.tok tk,rfl,q⟩
   obtain ⟨φ,Z,hz,ne⟩:=ty_kit I r1 ty
   exact PySem.W.kia_tup Z I.kIn hz ho ek ne fin
def qIsXs (K:PySem.W.Frag) (ta:TAQ):TQ:=fun p Q=>ta p fun es p1=>∃(e f:Ev) (cs:List Addr) (t:Value) (k:Bool),es=[e,f]/\lk p1 f=.tup (cs.map fun c=>.atom (.ref c))/\tyD (lk p1 e)=some t/\xfD K (lk p1 e)/\PySem.W.kitAny K t (cs.map Value.ref)=some k/\Q (.fz (.bl k)) p1
theorem rep_refs {K:PySem.W.Frag}:∀{cs:List Addr} {vs:List V},RepL K F (cs.map fun c=>D.atom (.ref c)) vs->vs=cs.map V.ref
 | [],_,r=>by cases r;rfl
 | c::cs,_,r=>by
  cases r with
  | cons h t=>
   cases h
   rw [List.map_cons,rep_refs t]
theorem cb_isXs (hK:X.K=C.K) (hg:Gl X "isinstance") (hm:X.mg "isinstance"=none) (ha:PA X [a,b] (UpA C tas)) (he:starEach [a,b] X.env=(false,eval a X.env)::starEach [b] X.env:=by rfl) (hpl:(backTo pos (starEach [b] X.env)).any (·.1)=false:=by rfl) :
  PE X (.Call (.Name "isinstance" ps) [a,b] [] pos) (Up C (qIsXs C.K tas)):=
 QE.mk (pe_callB (call_isXs hK) hg hm (by kernel_rfl) ha (he:=he) (hpl:=hpl)) fun p σ F H R rs ht=>upA1 rs ht fun es1 p1 vs1 F1 H1 rs1 s1 sh er1 ⟨e1,e2,cs,t,k,h0,h1,h2,hx,hk,q⟩=>by
  obtain ⟨v,z,rfl,er,er'⟩:=evs2 er1 h0
  obtain ⟨a1,vs,rfl,g,r⟩:=ev_tup rs1 er' h1
  rw [rep_refs r] at g
  exact ⟨v,a1,cs,t,k,rfl,g,tyD_ok rs1 er h2 hx,hk,fin_ev rs1 s1 sh (.bl _) q⟩
end
section
variable {K:PySem.W.Frag} {C N M NM:Addr} {nm q nm' q':Str} {bs bs':List Value} {hd ab hd' ab':Bool} {sn sn':List Str} {sub sub':List Value} {col col':Option Bool} {dd dd':Option Addr} {k0 k1 k2 k3 k5 j0 j1 j2 j3 j5:Option Value}
def strKeys (es:Array DictEntry):Bool:=es.toList.all fun e=>match e.key with|.str _ _=>true|_=>false
theorem nsOk_of {oc:Value} {od:Option Addr} {es:Array DictEntry} {ep:Nat} {sl:Array (Option Value)} (l:K.lookup N=some ⟨oc,od,.dict es ep,sl⟩) (h:strKeys es=true):PySem.W.nsOkIn K N=true:=by
 unfold PySem.W.nsOkIn
 rw [l]
 show (es.all fun e=>match e.key with|.str _ _=>true|_=>false)=true
 rw [<-Array.all_toList]
 exact h
theorem exc_base (l:K.lookup C=some (excClassObj nm q C N bs vbm hd sn sub ab col dd k0 k1 k2 k3 k5 "ValueError.__new__")) (o:PySem.W.nsOkIn K N=true) (i:PySem.W.nsIn K N "__init__"=some none):PySem.W.excIn K C vbm "ValueError.__new__"=true:=by
 have t:PySem.W.tailIn K vbm vbm=true:=by unfold PySem.W.tailIn;simp
 unfold PySem.W.excIn
 rw [l]
 simp [t,o,i]
theorem exc_sub (l:K.lookup C=some (excClassObj nm q C N bs (.ref M::vbm) hd sn sub ab col dd k0 k1 k2 k3 k5 "ValueError.__new__")) (o:PySem.W.nsOkIn K N=true) (i:PySem.W.nsIn K N "__init__"=some none)
  (l':K.lookup M=some (excClassObj nm' q' M NM bs' vbm hd' sn' sub' ab' col' dd' j0 j1 j2 j3 j5 "ValueError.__new__")) (o':PySem.W.nsOkIn K NM=true) (i':PySem.W.nsIn K NM "__init__"=some none):PySem.W.excIn K C vbm "ValueError.__new__"=true:=by
 have t:PySem.W.tailIn K vbm vbm=true:=by unfold PySem.W.tailIn;simp
 have t':PySem.W.tailIn K vbm (.ref M::vbm)=true:=by
  rw [PySem.W.tailIn]
  simp only [l',o',i',t]
  simp
 unfold PySem.W.excIn
 rw [l]
 simp [t',o,i]
theorem kit_own {t:Value} {b:Bool} (c:PySem.W.isClsIn K C=true) (y:PySem.W.typeIn K (.ref C)=some (.type "type")) (s:PySem.W.subIn K t (.ref C)=some b) (h:t=.ref C->b=true):PySem.W.kitOne K t (.ref C)=some b:=by
 unfold PySem.W.kitOne
 by_cases e:t=.ref C
 ·rw [if_pos (by rw [e];simp),h e]
 ·rw [if_neg (by simp [e])]
  unfold PySem.W.kitCls
  have c':(PySem.W.clsIn K C).isSome=true:=c
  simp only [c',y]
  exact s
theorem kit_ty {t:Value} {T:String} {b:Bool} (m:PySem.W.kitMeta T=true) (s:PySem.W.subIn K t (.type T)=some b) (h:t=.type T->b=true):PySem.W.kitOne K t (.type T)=some b:=by
 unfold PySem.W.kitOne
 by_cases e:t=.type T
 ·rw [if_pos (by rw [e];simp),h e]
 ·rw [if_neg (by simp [e])]
  unfold PySem.W.kitCls
  simp only [m,if_true]
  exact s
theorem kit_ne {C':Addr} (s:PySem.W.subIn K (.ref C') (.ref C)=some false) (s':PySem.W.subIn K (.ref C) (.ref C)=some true):(Value.ref C':Value)=.ref C->false=true:=fun e=>by
 cases e
 rw [s] at s'
 cases s'
end
theorem deqv_self {d:D} (h:DOk d):deqv d d=true:=SeqAt.eqv_refl _ h.ly
section
variable {X:Cx} {C:Pc} {e:Expr} {t1 t2:TN}
def nOr (t1 t2:TN):TN:=fun p Q=>t1 p Q\/t2 p Q
theorem n_or (h1:PE X e (UpN C t1)) (h2:PE X e (UpN C t2)):PE X e (UpN C (nOr t1 t2)):=fun pins s σ H Q I ⟨p,F,R,rs,ht,hq⟩=>by
 rcases ht with z|z
 ·exact h1 pins s σ H Q I ⟨p,F,R,rs,z,hq⟩
 ·exact h2 pins s σ H Q I ⟨p,F,R,rs,z,hq⟩
end
section
variable {prog:Program} {w:World} {A:Around} {E:Value->Shared->Prop} {s:Shared} {a₀:Array Keyed}
def Runs (prog:Program) (w:World) (vs:List Value):Prop:=∀(A:Around) (E:Value->Shared->Prop) (s1:Shared) (st:SortSt),SBase (PyProof.Rows.pairsOf vs) st->arrOf st=PyProof.Rows.pairsOf vs->2<=(PyProof.Rows.pairsOf vs).size->
 wpS (model prog w) A E s1 sortRuns' (fun _ t=>(arrOf t).Perm (PyProof.Rows.pairsOf vs)/\failedOf t=none/\SortedTo (arrOf t) (PyProof.Rows.pairsOf vs).size) st
theorem sort_by {a : Addr} {vs : List Value} {ns : List Int} {n : Nat} {P : PySem.Fin → Shared → Prop} (g : s.heap.get? a = some (seqObj "list" vs.toArray n)) (hI : IntsAre vs ns) (hz : vs.length ≤ sizeLine) (hR : Runs prog w vs)
    (k : ∀ (out : Array Value) (ns' : List Int), IntsAre out.toList ns' → ns'.Perm ns → ns'.Pairwise (· ≤ ·) → P (.done (.ret .none)) { s with heap := sortedHeap s.heap a vs out }) :
    wpAny (model prog w) A (Builtin.«list.sort» ⟨[.ref a], []⟩) P E s := by
  have la : a < s.heap.objs.size := Heap.lt_size g
  have zs : vs.toArray.size = vs.length := List.size_toArray
  have kk : ∀ t : SortSt, (arrOf t).Perm (PyProof.Rows.pairsOf vs) → SortedTo (arrOf t) (PyProof.Rows.pairsOf vs).size → P (.done (.ret .none)) { s with heap := sortedHeap s.heap a vs ((arrOf t).map (·.2)) } := fun t t1 t2 => by
    obtain ⟨ns', x1, x2, x3⟩ := sorted_out hI t1 t2
    exact k _ ns' x1 x2 x3
  rw [list_sort_plain]
  refine wpAny_bind (listItems_at g rfl (wpAny_bind (listUpdate_at g rfl ?_ (hsz := by rw [zs]; exact hz))))
  obtain ⟨c1, g1⟩ : ∃ c1, (s.heap.update a (Obj.mapSeq fun _ => #[])).get? a = some (seqObj "list" #[] c1) := ⟨_, get?_update_seq g (fun _ => #[])⟩
  refine wpAny_bind (seqEpoch_at g1 rfl (wpAny_bind (wpAny_newTuple (wpAny_bind (wpAny_newList (wpAny_holding ?_)))  (by seq_fits))))
  generalize hh : ((s.heap.update a (Obj.mapSeq fun _ => #[])).push (seqObj "tuple" vs.toArray 0)).push (seqObj "list" #[] 0) = h6
  have g6 : h6.get? a = some (seqObj "list" #[] c1) := by
    rw [← hh, Heap.get?_push_ne _ _ _ (by rw [size_push', Heap.size_update]; exact Nat.ne_of_lt (Nat.lt_succ_of_lt la)), Heap.get?_push_ne _ _ _ (by rw [Heap.size_update]; exact Nat.ne_of_lt la)]
    exact g1
  have kk6 : ∀ t : SortSt, (arrOf t).Perm (PyProof.Rows.pairsOf vs) → SortedTo (arrOf t) (PyProof.Rows.pairsOf vs).size → P (.done (.ret .none)) { s with heap := h6.update a (Obj.mapSeq fun _ => (arrOf t).map (·.2)) } := fun t t1 t2 => by
    have := kk t t1 t2
    unfold sortedHeap at this
    rw [hh] at this
    exact this
  show wpAny (model prog w) A _ P E { s with heap := h6 }
  dsimp only
  have tail : ∀ t : SortSt, (arrOf t).Perm (PyProof.Rows.pairsOf vs) → failedOf t = none → SortedTo (arrOf t) (PyProof.Rows.pairsOf vs).size →
      wpAny (model prog w) A (do
        let touched := (← seqEpoch a) != c1
        Builtin.List.listUpdate (.ref a) fun _ => (arrOf t).map (·.2)
        if let some e := failedOf t then rule "list.sort.comparison-raised"; throw e
        if touched then rule "list.sort.modified"; raiseError "ValueError" "list modified during sort"
        ret .none) P E { s with heap := h6 } := fun t t1 t2 t3 => by
    refine wpAny_bind (seqEpoch_at g6 rfl (wpAny_bind (listUpdate_at g6 rfl ?_ (hsz2 := ?_))))
    · rw [t2]
      simp only [bne_self_eq_false, Bool.false_eq_true, if_false]
      exact wpAny_pure (kk6 t t1 t3)
    · rw [Array.size_map, t1.size_eq, pairsOf_size]
      omega
  by_cases h2 : vs.toArray.size < 2
  · rw [if_pos h2, if_pos h2]
    refine wpAny_bind (wpAny_pure ?_)
    rw [StateT.run_pure]
    refine wpAny_bind (wpAny_pure (tail (SortSt.mk' general' (vs.toArray.zip vs.toArray) #[] 7 none) (Array.Perm.refl _) rfl fun i j hij hj => ?_))
    rw [pairsOf_size] at hj
    rw [show i = j by omega]
    exact Int.le_refl _
  · rw [if_neg h2, if_neg h2]
    have ek : keyKind' vs.toArray = pure oneType' := by
      match vs, zs, h2, hI with
      | [], _, h2, _ => exact absurd (by simp) h2
      | [_], _, h2, _ => exact absurd (by simp) h2
      | x :: y :: r, _, _, hI => exact keyKind_ints hI
    rw [ek]
    refine wpAny_bind (wpAny_pure (wpAny_bind (wpAny_mono (hR A E _ (SortSt.mk' oneType' (vs.toArray.zip vs.toArray) #[] 7 none) ⟨Array.Perm.refl _, rfl, rfl, rfl⟩ rfl (by rw [pairsOf_size]; omega)) ?_ fun _ _ e => e)))
    rintro ⟨⟨⟩, t⟩ s2 ⟨rfl, t1, t2, t3⟩
    exact tail t t1 t2 t3
theorem sorted_call {l:Addr} {vs:List Value} {ns:List Int} {Q:Value->Shared->Prop} (hl:s.heap.IsList l vs.toArray) (hI:IntsAre vs ns) (hz:vs.length<=sizeLine) (hR:Runs prog w vs)
  (k:∀(out:Array Value) (ns':List Int),IntsAre out.toList ns'->ns'.Perm ns->ns'.Pairwise (·<=·)->Q (.ref (s.heap.objs.size+1)) { s with heap:=sortedAll s.heap vs out }) :
  wpAny (model prog w) A (call (.builtin "sorted") [.ref l]) Q E s:=by
 refine Calls.call_function_entry kind_sorted plain_sorted entry_sorted (args_sorted1 _) ?_
 unfold Builtin.«sorted»
 refine wpAny_bind (m:=checkCount "sorted" 1 1 _) (wpAny_pure (wpAny_bind (collect_list hl (wpAny_bind (wpAny_newList ?_)) (hsz:=hz))))
 have z1:((s.heap.push (seqObj "list" #[] 0)).update s.heap.objs.size (Obj.mapSeq (·++vs.toArray))).objs.size=s.heap.objs.size+1:=by rw [Heap.size_update,size_push']
 generalize hh:(s.heap.push (seqObj "list" #[] 0)).update s.heap.objs.size (Obj.mapSeq (·++vs.toArray))=h1 at z1
 have g:(h1.push (seqObj "list" vs.toArray 0)).get? (s.heap.objs.size+1)=some (seqObj "list" vs.toArray 0):=by
  rw [<-z1];exact Heap.get?_push_size _ rfl
 show wpAny _ _ _ _ _ { s with heap:=h1.push (seqObj "list" vs.toArray 0) }
 rw [show ({ s with heap:=h1 }:Shared).heap.objs.size=s.heap.objs.size+1 from z1]
 refine wpAny_bind (wpAny_holding (wpAny_call_entry slot_list_sort ⟨_,g,rfl⟩ entry_list_sort (sort_by g hI hz hR fun out ns' x1 x2 x3=>⟨_,rfl,wpAny_pure ⟨_,rfl,?_⟩⟩) (args_list_sort _)))
 have:=k out ns' x1 x2 x3
 unfold sortedAll at this
 rw [hh] at this
 exact this
end
namespace SR
abbrev gal:Bool->Keyed->Array Keyed->Nat->Nat->Nat->StateT SortSt Sem (Option Nat):=sortPriv% PySem.Builtin.gallop
abbrev mlo:Array Keyed->Array Keyed->StateT SortSt Sem (Array Keyed):=sortPriv% PySem.Builtin.mergeLo
abbrev mhi:Array Keyed->Array Keyed->StateT SortSt Sem (Array Keyed):=sortPriv% PySem.Builtin.mergeHi
abbrev mat:Nat->StateT SortSt Sem Bool:=sortPriv% PySem.Builtin.mergeAt
def kv (p:Keyed):Int:=numOf p.1
def IK (p:Keyed):Prop:=∃n t,p.1=.int n t
section
variable {prog:Program} {w:World} {A:Around} {E:Value->Shared->Prop} {s:Shared}
theorem wp_lt {st:SortSt} {x y:Keyed} {Q:Option Bool->SortSt->Prop} (hk:kindOf st=oneType') (hx:IK x) (hy:IK y) (h:Q (some (decide (kv x<kv y))) st):wpS (model prog w) A E s (lt' x y) Q st:=by
 obtain ⟨n,t,e1⟩:=hx
 obtain ⟨m,u,e2⟩:=hy
 have k1:kv x=n:=by unfold kv;rw [e1];rfl
 have k2:kv y=m:=by unfold kv;rw [e2];rfl
 rw [k1,k2] at h
 rw [lt'_eq,e1,e2]
 refine wpS_bind (wpS_get ?_)
 rw [hk,keyLt'_oneType]
 exact wpS_bind (wpS_lift (wpAny_attempt (oneLt_int ⟨rfl,wpS_pure h⟩)))
theorem wp_elem {st:SortSt} {arr:Array Keyed} {i:Nat} {p:Keyed} {Q:Keyed->SortSt->Prop} (h:arr[i]? = some p) (q:Q p st):wpS (model prog w) A E s (elem' arr i) Q st:=by
 rw [elem'_eq,h]
 exact wpS_pure q
def bey (left:Bool) (key x:Keyed):Bool:=if left then decide (kv x<kv key) else !decide (kv key<kv x)
structure Up (arr:Array Keyed) (lo n:Nat):Prop where
 at_:∀i,i<n->∃p,arr[lo+i]? = some p/\IK p
 le:∀i j p q,i<=j->j<n->arr[lo+i]? = some p->arr[lo+j]? = some q->kv p<=kv q
theorem bey_mono {left:Bool} {key:Keyed} {arr:Array Keyed} {lo n i j:Nat} {p q:Keyed} (u:Up arr lo n) (hij:i<=j) (hj:j<n) (hp:arr[lo+i]? = some p) (hq:arr[lo+j]? = some q) (h:bey left key q=true):bey left key p=true:=by
 have:=u.le i j p q hij hj hp hq
 unfold bey at h ⊢
 cases left
 ·simp at h ⊢;omega
 ·simp at h ⊢;omega
def Cut (left:Bool) (key:Keyed) (arr:Array Keyed) (lo n k:Nat):Prop:=k<=n/\(∀i p,i<k->arr[lo+i]? = some p->bey left key p=true)/\(∀i p,k<=i->i<n->arr[lo+i]? = some p->bey left key p=false)
abbrev GSt:=Option (Option Nat) × Nat × Nat
theorem wp_bin {st:SortSt} {left:Bool} {key:Keyed} {arr:Array Keyed} {lo n:Nat} {f:Nat->GSt->StateT SortSt Sem (ForInStep GSt)} (u:Up arr lo n)
  (hf:∀(x l r:Nat) (Q':ForInStep GSt->SortSt->Prop),l<r->r<=n->(∀p,arr[lo+(l+(r - l) / 2)]? = some p->(bey left key p=true->Q' (.yield (none,l+(r - l) / 2+1,r)) st)/\(bey left key p=false->Q' (.yield (none,l,l+(r - l) / 2)) st))->wpS (model prog w) A E s (f x (none,l,r)) Q' st)
  (hg:∀(x l r:Nat) (Q':ForInStep GSt->SortSt->Prop),r<=l->Q' (.done (none,l,r)) st->wpS (model prog w) A E s (f x (none,l,r)) Q' st)
  {l r:Nat} (hl:l<=r) (hr:r<=n) (h1:∀i p,i<l->arr[lo+i]? = some p->bey left key p=true) (h2:∀i p,r<=i->i<n->arr[lo+i]? = some p->bey left key p=false) :
  wpS (model prog w) A E s (forIn [0:n] ((none,l,r):GSt) f) (fun c st'=>st'=st/\∃k,c=(none,k,k)/\Cut left key arr lo n k) st:=by
 refine wpS_forRange (I:=fun x c st'=>st'=st/\∃l r,c=(none,l,r)/\l<=r/\r<=n/\r - l<=n - x/\(∀i p,i<l->arr[lo+i]? = some p->bey left key p=true)/\(∀i p,r<=i->i<n->arr[lo+i]? = some p->bey left key p=false)) ?_ ?_ ⟨rfl,l,r,rfl,hl,hr,by omega,h1,h2⟩
 ·rintro x c st' _ hx ⟨rfl,l,r,rfl,g1,g2,g3,g4,g5⟩
  by_cases z:l<r
  ·obtain ⟨p,e,ip⟩:=u.at_ (l+(r - l) / 2) (by omega)
   refine hf x l r _ z g2 fun p' e'=>?_
   rw [e] at e'
   cases e'
   refine ⟨fun b=>⟨rfl,_,_,rfl,by omega,g2,by omega,fun i q hi eq=>?_,g5⟩,fun b=>⟨rfl,_,_,rfl,by omega,by omega,by omega,g4,fun i q hi hn eq=>?_⟩⟩
   ·exact bey_mono u (show i<=l+(r - l) / 2 by omega) (by omega) eq e b
   ·cases hb:bey left key q with
    | false=>rfl
    | true=>have:=bey_mono u hi hn e eq hb;rw [b] at this;cases this
  ·have:l=r:=by omega
   subst this
   exact hg x l l _ (Nat.le_refl _) ⟨rfl,l,rfl,g2,g4,g5⟩
 ·rintro c st' ⟨rfl,l,r,rfl,g1,g2,g3,g4,g5⟩
  have:l=r:=by omega
  subst this
  exact ⟨rfl,l,rfl,g2,g4,g5⟩
theorem wp_gal {st : SortSt} {left : Bool} {key : Keyed} {arr : Array Keyed} {lo n hint : Nat} {Q : Option Nat → SortSt → Prop} (hk : kindOf st = oneType') (hkey : IK key) (u : Up arr lo n) (hh : hint < n)
    (h : ∀ k, Cut left key arr lo n k → Q (some k) st) : wpS (model prog w) A E s (gal left key arr lo n hint) Q st := by
  have ask : ∀ (i : Nat) (p : Keyed) (Q' : Option Bool → SortSt → Prop), arr[lo + i]? = some p → IK p → Q' (some (bey left key p)) st → wpS (model prog w) A E s (do let x ← elem' arr (lo + i); if left then lt' x key else return (← lt' key x).map (!·)) Q' st := by
    intro i p Q' e hp q
    refine wpS_bind (wp_elem e ?_)
    cases left with
    | true => exact wp_lt hk hp hkey q
    | false => exact wpS_bind (wp_lt hk hkey hp (wpS_pure q))
  obtain ⟨ph, eh, ih⟩ := u.at_ hint hh
  refine wpS_bind (ask hint ph _ eh ih ?_)
  dsimp only
  have bin : ∀ (f : Nat → GSt → StateT SortSt Sem (ForInStep GSt)) (k : GSt → StateT SortSt Sem (Option Nat)), (∀ c, k (none, c, c) = pure (some c)) →
      (∀ (x l r : Nat) (Q' : ForInStep GSt → SortSt → Prop), l < r → r ≤ n → (∀ p, arr[lo + (l + (r - l) / 2)]? = some p → (bey left key p = true → Q' (.yield (none, l + (r - l) / 2 + 1, r)) st) ∧ (bey left key p = false → Q' (.yield (none, l, l + (r - l) / 2)) st)) → wpS (model prog w) A E s (f x (none, l, r)) Q' st) →
      (∀ (x l r : Nat) (Q' : ForInStep GSt → SortSt → Prop), r ≤ l → Q' (.done (none, l, r)) st → wpS (model prog w) A E s (f x (none, l, r)) Q' st) →
      ∀ l r, l ≤ r → r ≤ n → (∀ i p, i < l → arr[lo + i]? = some p → bey left key p = true) → (∀ i p, r ≤ i → i < n → arr[lo + i]? = some p → bey left key p = false) →
      wpS (model prog w) A E s (forIn [0:n] ((none, l, r) : GSt) f >>= k) Q st := fun f k hk' hf hg l r g1 g2 g3 g4 => by
    refine wpS_bind (wpS_mono (wp_bin u hf hg g1 g2 g3 g4) ?_)
    rintro c st' ⟨rfl, m, rfl, hc⟩
    rw [hk']
    exact wpS_pure (h m hc)
  have half : ∀ (l r : Nat) (p : Keyed) (Q' : ForInStep GSt → SortSt → Prop), arr[lo + (l + (r - l) / 2)]? = some p → ((bey left key p = true → Q' (.yield (none, l + (r - l) / 2 + 1, r)) st) ∧ (bey left key p = false → Q' (.yield (none, l, l + (r - l) / 2)) st)) → wpS (model prog w) A E s (if bey left key p = true then pure (ForInStep.yield ((none, l + (r - l) / 2 + 1, r) : GSt)) else pure (ForInStep.yield (none, l, l + (r - l) / 2))) Q' st := fun l r p Q' _ q => by
    cases hb : bey left key p with
    | true => rw [if_pos rfl]; exact wpS_pure (q.1 hb)
    | false => rw [if_neg (by decide)]; exact wpS_pure (q.2 hb)
  have up : ∀ {i j : Nat} {p q : Keyed}, i ≤ j → j < n → arr[lo + i]? = some p → arr[lo + j]? = some q → bey left key p = false → bey left key q = false := fun {i j p q} hij hj ep eq b => by
    cases hb : bey left key q with
    | false => rfl
    | true => have := bey_mono u hij hj ep eq hb; rw [b] at this; cases this
  cases hb : bey left key ph with
  | true =>
    rw [if_pos rfl]
    refine wpS_bind (wpS_mono (wpS_forRange (I := fun x c st' => st' = st ∧ ∃ l o p, c = (none, l, o) ∧ x + 1 ≤ o ∧ l < o ∧ hint + l < n ∧ arr[lo + (hint + l)]? = some p ∧ bey left key p = true)
      (Q := fun c st' => st' = st ∧ ∃ l o p, c = (none, l, o) ∧ l < o ∧ hint + l < n ∧ arr[lo + (hint + l)]? = some p ∧ bey left key p = true ∧ (n - hint ≤ o ∨ ∃ q, arr[lo + (hint + o)]? = some q ∧ bey left key q = false)) ?_ ?_ ⟨rfl, 0, 1, ph, rfl, by omega, by omega, by omega, eh, hb⟩) ?_)
    · rintro x c st' _ hx ⟨rfl, l, o, p, rfl, g1, g2, g3, g4, g5⟩
      dsimp only
      by_cases z : o ≥ n - hint
      · rw [if_pos z]; exact wpS_pure ⟨rfl, l, o, p, rfl, g2, g3, g4, g5, .inl z⟩
      · rw [if_neg z]
        obtain ⟨q, eq, iq⟩ := u.at_ (hint + o) (by omega)
        refine wpS_bind (ask (hint + o) q _ eq iq ?_)
        dsimp only
        cases hq : bey left key q with
        | true => exact wpS_pure ⟨rfl, o, 2 * o + 1, q, rfl, by omega, by omega, by omega, eq, hq⟩
        | false => exact wpS_pure ⟨rfl, l, o, p, rfl, g2, g3, g4, g5, .inr ⟨q, eq, hq⟩⟩
    · rintro c st' ⟨rfl, l, o, p, rfl, g1, g2, g3, g4, g5⟩
      exact ⟨rfl, l, o, p, rfl, g2, g3, g4, g5, .inl (by omega)⟩
    · rintro c st' ⟨rfl, l, o, p, rfl, g2, g3, g4, g5, g6⟩
      dsimp only
      refine bin _ _ (fun c => rfl) (fun x l r Q' hlr hr q => ?_) (fun x l r Q' hlr q => ?_) _ _ (by omega) (by omega) (fun i p' hi e => bey_mono u (show i ≤ hint + l by omega) g3 e g4 g5) (fun i p' hi hn e => ?_)
      · dsimp only
        rw [if_neg (by omega)]
        obtain ⟨p', e', ip'⟩ := u.at_ (l + (r - l) / 2) (by omega)
        exact wpS_bind (ask _ p' _ e' ip' (half l r p' Q' e' (q p' e')))
      · dsimp only
        rw [if_pos hlr]; exact wpS_pure q
      · rcases g6 with z | ⟨q, eq, hq⟩
        · omega
        · by_cases y : n - hint ≤ o
          · omega
          · exact up (show hint + o ≤ i by omega) hn eq e hq
  | false =>
    rw [if_neg (by decide)]
    refine wpS_bind (wpS_mono (wpS_forRange (I := fun x c st' => st' = st ∧ ∃ l o p, c = (none, l, o) ∧ x + 1 ≤ o ∧ l < o ∧ l ≤ hint ∧ arr[lo + (hint - l)]? = some p ∧ bey left key p = false)
      (Q := fun c st' => st' = st ∧ ∃ l o p, c = (none, l, o) ∧ l < o ∧ l ≤ hint ∧ arr[lo + (hint - l)]? = some p ∧ bey left key p = false ∧ (hint + 1 ≤ o ∨ (o ≤ hint ∧ ∃ q, arr[lo + (hint - o)]? = some q ∧ bey left key q = true))) ?_ ?_ ⟨rfl, 0, 1, ph, rfl, by omega, by omega, by omega, eh, hb⟩) ?_)
    · rintro x c st' _ hx ⟨rfl, l, o, p, rfl, g1, g2, g3, g4, g5⟩
      dsimp only
      by_cases z : o ≥ hint + 1
      · rw [if_pos z]; exact wpS_pure ⟨rfl, l, o, p, rfl, g2, g3, g4, g5, .inl z⟩
      · rw [if_neg z]
        obtain ⟨q, eq, iq⟩ := u.at_ (hint - o) (by omega)
        refine wpS_bind (ask (hint - o) q _ eq iq ?_)
        dsimp only
        cases hq : bey left key q with
        | true => exact wpS_pure ⟨rfl, l, o, p, rfl, g2, g3, g4, g5, .inr ⟨by omega, q, eq, hq⟩⟩
        | false => exact wpS_pure ⟨rfl, o, 2 * o + 1, q, rfl, by omega, by omega, by omega, eq, hq⟩
    · rintro c st' ⟨rfl, l, o, p, rfl, g1, g2, g3, g4, g5⟩
      exact ⟨rfl, l, o, p, rfl, g2, g3, g4, g5, .inl (by omega)⟩
    · rintro c st' ⟨rfl, l, o, p, rfl, g2, g3, g4, g5, g6⟩
      dsimp only
      refine bin _ _ (fun c => rfl) (fun x l r Q' hlr hr q => ?_) (fun x l r Q' hlr q => ?_) _ _ (by omega) (by omega) (fun i p' hi e => ?_) (fun i p' hi hn e => up (show hint - l ≤ i by omega) hn g4 e g5)
      · dsimp only
        rw [if_neg (by omega)]
        obtain ⟨p', e', ip'⟩ := u.at_ (l + (r - l) / 2) (by omega)
        exact wpS_bind (ask _ p' _ e' ip' (half l r p' Q' e' (q p' e')))
      · dsimp only
        rw [if_pos hlr]; exact wpS_pure q
      · rcases g6 with z | ⟨z, q, eq, hq⟩
        · omega
        · exact bey_mono u (show i ≤ hint - o by omega) (by omega) e eq hq
end
end SR
namespace SR
def Srt (g:Keyed->Int) (l:List Keyed):Prop:=l.Pairwise fun x y=>g x<=g y
structure Mg (g:Keyed->Int) (all out ra rb:List Keyed):Prop where
 perm:(out++(ra++rb)).Perm all
 so:Srt g out
 sa:Srt g ra
 sb:Srt g rb
 oa:∀x∈out,∀y∈ra,g x<=g y
 ob:∀x∈out,∀y∈rb,g x<=g y
section
variable {g:Keyed->Int}
theorem Mg.swap {all out ra rb:List Keyed} (m:Mg g all out ra rb):Mg g all out rb ra:=⟨(List.Perm.append_left _ List.perm_append_comm).trans m.perm,m.so,m.sb,m.sa,m.ob,m.oa⟩
theorem Mg.cut {all out rb c ra:List Keyed} (m:Mg g all out (c++ra) rb) (h:∀x∈c,∀y∈rb,g x<=g y):Mg g all (out++c) ra rb:=by
 have sa:=List.pairwise_append.mp m.sa
 refine ⟨by have:=m.perm;simpa [List.append_assoc] using this,List.pairwise_append.mpr ⟨m.so,sa.1,fun x hx y hy=>m.oa x hx y (List.mem_append.mpr (.inl hy))⟩,sa.2.1,m.sb,?_,?_⟩
 ·intro x hx y hy
  rcases List.mem_append.mp hx with hx|hx
  ·exact m.oa x hx y (List.mem_append.mpr (.inr hy))
  ·exact sa.2.2 x hx y hy
 ·intro x hx y hy
  rcases List.mem_append.mp hx with hx|hx
  ·exact m.ob x hx y hy
  ·exact h x hx y hy
theorem Mg.cutB {all out ra c rb:List Keyed} (m:Mg g all out ra (c++rb)) (h:∀x∈c,∀y∈ra,g x<=g y):Mg g all (out++c) ra rb:=(m.swap.cut h).swap
theorem Mg.end_ {all out ra rb:List Keyed} (m:Mg g all out ra rb) (h:∀x∈rb,∀y∈ra,g x<=g y):(out++rb++ra).Perm all/\Srt g (out++rb++ra):=by
 have m1:=Mg.cutB (c:=rb) (rb:=[]) (by simpa using m) h
 have m2:=Mg.cut (c:=ra) (ra:=[]) (by simpa using m1) (by simp)
 exact ⟨by simpa using m2.perm,m2.so⟩
end
structure Same (st st':SortSt):Prop where
 k:kindOf st'=kindOf st
 a:arrOf st'=arrOf st
 p:pendingOf st'=pendingOf st
 f:failedOf st'=failedOf st
theorem drop_at {a:Array Keyed} {i:Nat} {p:Keyed} (e:a[i]? = some p):a.toList.drop i=p::a.toList.drop (i+1):=by
 obtain ⟨hi,e⟩:=Array.getElem?_eq_some_iff.mp e
 rw [List.drop_eq_getElem_cons (by simpa using hi)]
 simp [e]
theorem ext_toList (a:Array Keyed) (i j:Nat):(a.extract i j).toList=(a.toList.drop i).take (j - i):=by simp [List.extract_eq_take_drop]
theorem ext0 (o a:Array Keyed) (i:Nat):o++a.extract i (i+0)=o:=by
 apply Array.ext'
 rw [Array.toList_append,ext_toList]
 simp
theorem mem_drop {a:Array Keyed} {i:Nat} {x:Keyed} (h:x∈a.toList.drop i):∃j,i<=j/\j<a.size/\a[j]? = some x:=by
 obtain ⟨j,hj,e⟩:=List.getElem_of_mem h
 rw [List.length_drop,Array.length_toList] at hj
 rw [List.getElem_drop] at e
 refine ⟨i+j,by omega,by omega,?_⟩
 rw [<-Array.getElem?_toList,List.getElem?_eq_getElem (by rw [Array.length_toList];omega),e]
theorem mem_chunk {a:Array Keyed} {i k:Nat} {x:Keyed} (h:x∈(a.toList.drop i).take k):∃j,j<k/\i+j<a.size/\a[i+j]? = some x:=by
 obtain ⟨j,hj,e⟩:=List.getElem_of_mem h
 rw [List.length_take,List.length_drop,Array.length_toList] at hj
 rw [List.getElem_take,List.getElem_drop] at e
 refine ⟨j,by omega,by omega,?_⟩
 rw [<-Array.getElem?_toList,List.getElem?_eq_getElem (by rw [Array.length_toList];omega),e]
theorem Up.sub {a:Array Keyed} {i:Nat} (u:Up a 0 a.size) (n:Nat) (hi:i+n<=a.size):Up a i n:=by
 constructor
 ·intro j hj
  obtain ⟨p,e,hp⟩:=u.at_ (i+j) (by omega)
  rw [Nat.zero_add] at e
  exact ⟨p,e,hp⟩
 ·intro j k p q hjk hk e1 e2
  exact u.le (i+j) (i+k) p q (by omega) (by omega) (by rw [Nat.zero_add];exact e1) (by rw [Nat.zero_add];exact e2)
theorem Up.get {a:Array Keyed} {i:Nat} (u:Up a 0 a.size) (hi:i<a.size):∃p,a[i]? = some p/\IK p:=by
 have:=u.at_ i hi
 rwa [Nat.zero_add] at this
theorem Up.leq {a:Array Keyed} {i j:Nat} {p q:Keyed} (u:Up a 0 a.size) (hij:i<=j) (e1:a[i]? = some p) (e2:a[j]? = some q):kv p<=kv q:=
 u.le i j p q hij (Array.getElem?_eq_some_iff.mp e2).1 (by rw [Nat.zero_add];exact e1) (by rw [Nat.zero_add];exact e2)
theorem Up.srt {a:Array Keyed} (u:Up a 0 a.size) (i:Nat):Srt kv (a.toList.drop i):=by
 refine List.pairwise_iff_getElem.mpr fun x y hx hy hxy=>?_
 rw [List.length_drop,Array.length_toList] at hx hy
 refine u.leq (i:=i+x) (j:=i+y) (by omega) ?_ ?_
 ·rw [List.getElem_drop,<-Array.getElem?_toList,List.getElem?_eq_getElem]
 ·rw [List.getElem_drop,<-Array.getElem?_toList,List.getElem?_eq_getElem]
abbrev JM (a b out:Array Keyed) (ia ib:Nat):Prop:=Mg kv (a.toList++b.toList) out.toList (a.toList.drop ia) (b.toList.drop ib)
section
variable {a b out:Array Keyed} {ia ib:Nat} {p:Keyed}
theorem pushA (m:JM a b out ia ib) (e:a[ia]? = some p) (h:∀y∈b.toList.drop ib,kv p<=kv y):JM a b (out.push p) (ia+1) ib:=by
 unfold JM at m ⊢
 rw [Array.toList_push]
 rw [drop_at e] at m
 exact Mg.cut (c:=[p]) m fun x hx=>by rw [List.mem_singleton.mp hx];exact h
theorem pushB (m:JM a b out ia ib) (e:b[ib]? = some p) (h:∀y∈a.toList.drop ia,kv p<=kv y):JM a b (out.push p) ia (ib+1):=by
 unfold JM at m ⊢
 rw [Array.toList_push]
 rw [drop_at e] at m
 exact Mg.cutB (c:=[p]) m fun x hx=>by rw [List.mem_singleton.mp hx];exact h
theorem appA (m:JM a b out ia ib) (k:Nat) (h:∀j x,j<k->a[ia+j]? = some x->∀y∈b.toList.drop ib,kv x<=kv y):JM a b (out++a.extract ia (ia+k)) (ia+k) ib:=by
 unfold JM at m ⊢
 rw [Array.toList_append,ext_toList,Nat.add_sub_cancel_left,<-List.drop_drop]
 rw [<-List.take_append_drop k (a.toList.drop ia)] at m
 exact m.cut fun x hx=>by obtain ⟨j,hj,_,e⟩:=mem_chunk hx;exact h j x hj e
theorem appB (m:JM a b out ia ib) (k:Nat) (h:∀j x,j<k->b[ib+j]? = some x->∀y∈a.toList.drop ia,kv x<=kv y):JM a b (out++b.extract ib (ib+k)) ia (ib+k):=by
 unfold JM at m ⊢
 rw [Array.toList_append,ext_toList,Nat.add_sub_cancel_left,<-List.drop_drop]
 rw [<-List.take_append_drop k (b.toList.drop ib)] at m
 exact m.cutB fun x hx=>by obtain ⟨j,hj,_,e⟩:=mem_chunk hx;exact h j x hj e
def Fin (st:SortSt) (a b r:Array Keyed) (st':SortSt):Prop:=Same st st'/\r.toList.Perm (a.toList++b.toList)/\Srt kv r.toList
theorem ext_all (a:Array Keyed) (i:Nat):(a.extract i).toList=a.toList.drop i:=by
 rw [ext_toList,List.take_of_length_le (by rw [List.length_drop,Array.length_toList];exact Nat.le_refl _)]
theorem fin1 {st st':SortSt} (hs:Same st st') (m:JM a b out ia ib) (h:b.size<=ib\/a.size<=ia):Fin st a b (out++a.extract ia++b.extract ib) st':=by
 refine ⟨hs,?_⟩
 have:=m.swap.end_ fun x hx y hy=>by
  obtain ⟨i,h1,h2,_⟩:=mem_drop hx
  obtain ⟨j,h3,h4,_⟩:=mem_drop hy
  omega
 rw [Array.toList_append,Array.toList_append,ext_all,ext_all]
 exact this
theorem fin2 {st st':SortSt} (hs:Same st st') (m:JM a b out ia ib) (h1:∀x∈b.toList,∀y,a[a.size - 1]? = some y->kv x<=kv y) (h:ia+1=a.size):Fin st a b (out++b.extract ib++a.extract ia) st':=by
 refine ⟨hs,?_⟩
 have:=m.end_ fun x hx y hy=>by
  obtain ⟨j,h3,h4,e⟩:=mem_drop hy
  exact h1 x (List.mem_of_mem_drop hx) y (by rw [show a.size - 1=j by omega];exact e)
 rw [Array.toList_append,Array.toList_append,ext_all,ext_all]
 exact this
structure JL (st:SortSt) (a b out:Array Keyed) (ia ib:Nat) (st':SortSt):Prop where
 s:Same st st'
 la:ia+1<a.size
 lb:ib<b.size
 m:JM a b out ia ib
end
section
variable {prog:Program} {w:World} {A:Around} {E:Value->Shared->Prop} {s:Shared}
theorem wp_if0 {α:Type} {k:Nat} {t e:StateT SortSt Sem α} {Q:α->SortSt->Prop} {st:SortSt} (h:k=0->e=t) (H:wpS (model prog w) A E s t Q st):wpS (model prog w) A E s (if k > 0 then t else e) Q st:=by
 by_cases z:k > 0
 ·rw [if_pos z];exact H
 ·rw [if_neg z,h (by omega)];exact H
theorem wp_mlo {st:SortSt} {a b:Array Keyed} {Q:Array Keyed->SortSt->Prop} (hk:kindOf st=oneType') (ua:Up a 0 a.size) (ub:Up b 0 b.size) (ha:0<a.size) (hb:0<b.size)
  (h0:∀x y,b[0]? = some x->a[0]? = some y->kv x<=kv y) (h1:∀x∈b.toList,∀y,a[a.size - 1]? = some y->kv x<=kv y)
  (h:∀out st',Fin st a b out st'->Q out st'):wpS (model prog w) A E s (mlo a b) Q st:=by
 obtain ⟨b0,e0,i0⟩:=ub.get hb
 obtain ⟨a0,f0,j0⟩:=ua.get ha
 refine wpS_bind (wpS_lift (wpAny_rule ⟨rfl,?_⟩))
 refine wpS_bind (wp_elem e0 ?_)
 have s0:Same st st:=⟨rfl,rfl,rfl,rfl⟩
 have m0:JM a b #[b0] 0 1:=by
  have m:Mg kv (a.toList++b.toList) [] a.toList (b0::b.toList.drop 1):=⟨by rw [<-drop_at e0];exact List.Perm.refl _,.nil,ua.srt 0,by rw [<-drop_at e0];exact ub.srt 0,by simp,by simp⟩
  exact Mg.cutB (c:=[b0]) m fun x hx y hy=>by
   rw [List.mem_singleton.mp hx]
   obtain ⟨j,_,h4,e⟩:=mem_drop (i:=0) (a:=a) (x:=y) hy
   exact Int.le_trans (h0 b0 a0 e0 f0) (ua.leq (Nat.zero_le j) f0 e)
 dsimp only
 by_cases z1:1=b.size
 ·rw [if_pos (by simp [<-z1])];exact wpS_pure (h _ _ (fin1 s0 m0 (.inl (by omega))))
 rw [if_neg (by simpa using z1)]
 by_cases z2:0+1=a.size
 ·rw [if_pos (by simp [<-z2])];exact wpS_pure (h _ _ (fin2 s0 m0 h1 z2))
 rw [if_neg (by simpa using z2)]
 refine wpS_bind (wpS_get ?_)
 refine wpS_bind (wpS_mono (wpS_forRange (I:=fun x c st'=>∃out ia ib mg,c=(none,out,ia,ib,mg)/\JL st a b out ia ib st'/\x<ia+ib)
   (Q:=fun c st'=>∃r out ia ib mg,c=(some r,out,ia,ib,mg)/\Fin st a b r st') ?step ?fin ⟨_,_,_,_,rfl,⟨s0,by omega,by omega,m0⟩,by omega⟩) ?post)
 case fin=>
  rintro c st' ⟨out,ia,ib,mg,rfl,J,hx⟩
  have:=J.la;have:=J.lb
  omega
 case post=>
  rintro c st' ⟨r,out,ia,ib,mg,rfl,F⟩
  exact wpS_pure (h _ _ F)
 case step=>
  rintro x c st' _ hx ⟨out,ia,ib,mg,rfl,J,hx⟩
  dsimp only
  refine wpS_bind (wpS_mono (wpS_forRange (I:=fun y c st'=>∃out ia ib ac bc,c=(none,out,ia,ib,ac,bc)/\JL st a b out ia ib st'/\x+y<ia+ib)
   (Q:=fun c st'=>(∃r out ia ib ac bc,c=(some r,out,ia,ib,ac,bc)/\Fin st a b r st')\/(∃out ia ib ac bc,c=(none,out,ia,ib,ac,bc)/\JL st a b out ia ib st'/\x+1<ia+ib)) ?step1 ?fin1 ⟨_,_,_,_,_,rfl,J,by omega⟩) ?post1)
  case fin1=>
   rintro c st' ⟨out,ia,ib,ac,bc,rfl,J,hx⟩
   have:=J.la;have:=J.lb
   omega
  case step1=>
   rintro y c st' _ hy ⟨out,ia,ib,ac,bc,rfl,J,hx⟩
   have la:=J.la;have lb:=J.lb
   obtain ⟨p,ep,ip⟩:=ub.get J.lb
   obtain ⟨q,eq,iq⟩:=ua.get (show ia<a.size by omega)
   dsimp only
   refine wpS_bind (wp_elem ep (wpS_bind (wp_elem eq (wpS_bind (wp_lt (J.s.k.trans hk) ip iq ?_)))))
   dsimp only
   by_cases z:kv p<kv q
   ·rw [if_pos (by simpa using z)]
    refine wpS_bind (wp_elem ep ?_)
    have m:=pushB J.m ep fun y hy=>by
     obtain ⟨j,h3,h4,e⟩:=mem_drop hy
     have:=ua.leq h3 eq e
     omega
    by_cases z3:ib+1=b.size
    ·rw [if_pos (by simpa using z3)]
     exact wpS_pure (.inl ⟨_,_,_,_,_,_,rfl,fin1 J.s m (.inl (by omega))⟩)
    rw [if_neg (by simpa using z3)]
    split
    ·exact wpS_pure (.inr ⟨_,_,_,_,_,rfl,⟨J.s,la,by omega,m⟩,by omega⟩)
    ·exact wpS_pure ⟨_,_,_,_,_,rfl,⟨J.s,la,by omega,m⟩,by omega⟩
   ·rw [if_neg (by simpa using z)]
    refine wpS_bind (wp_elem eq ?_)
    have m:=pushA J.m eq fun y hy=>by
     obtain ⟨j,h3,h4,e⟩:=mem_drop hy
     have:=ub.leq h3 ep e
     omega
    by_cases z3:ia+1+1=a.size
    ·rw [if_pos (by simpa using z3)]
     exact wpS_pure (.inl ⟨_,_,_,_,_,_,rfl,fin2 J.s m h1 z3⟩)
    rw [if_neg (by simpa using z3)]
    split
    ·exact wpS_pure (.inr ⟨_,_,_,_,_,rfl,⟨J.s,by omega,lb,m⟩,by omega⟩)
    ·exact wpS_pure ⟨_,_,_,_,_,rfl,⟨J.s,by omega,lb,m⟩,by omega⟩
  case post1=>
   rintro c st' (⟨r,out,ia,ib,ac,bc,rfl,F⟩|⟨out,ia,ib,ac,bc,rfl,J,hx⟩)
   ·exact wpS_pure ⟨_,_,_,_,_,rfl,F⟩
   dsimp only
   refine wpS_bind (wpS_lift (wpAny_rule ⟨rfl,?_⟩))
   refine wpS_bind (wpS_mono (wpS_forRange (I:=fun y c st'=>∃out ia ib mg ac bc,c=(none,out,ia,ib,mg,ac,bc)/\JL st a b out ia ib st'/\x+y+1<ia+ib)
    (Q:=fun c st'=>(∃r out ia ib mg ac bc,c=(some r,out,ia,ib,mg,ac,bc)/\Fin st a b r st')\/(∃out ia ib mg ac bc,c=(none,out,ia,ib,mg,ac,bc)/\JL st a b out ia ib st'/\x+1<ia+ib)) ?step2 ?fin2 ⟨_,_,_,_,_,_,rfl,J,by omega⟩) ?post2)
   case fin2=>
    rintro c st' ⟨out,ia,ib,mg,ac,bc,rfl,J,hx⟩
    have:=J.la;have:=J.lb
    omega
   case post2=>
    rintro c st' (⟨r,out,ia,ib,mg,ac,bc,rfl,F⟩|⟨out,ia,ib,mg,ac,bc,rfl,J,hx⟩)
    ·exact wpS_pure ⟨_,_,_,_,_,rfl,F⟩
    dsimp only
    exact wpS_bind (wpS_modify (wpS_pure ⟨_,_,_,_,rfl,⟨⟨J.s.k,J.s.a,J.s.p,J.s.f⟩,J.la,J.lb,J.m⟩,by omega⟩))
   case step2=>
    rintro y c st' _ hy ⟨out,ia,ib,mg,ac,bc,rfl,J,hx⟩
    have la:=J.la;have lb:=J.lb
    obtain ⟨p,ep,ip⟩:=ub.get J.lb
    dsimp only
    by_cases hm:mg > 1
    rw [if_pos hm]
    rotate_left
    rw [if_neg hm]
    all_goals
     refine wpS_bind (wpS_modify ?_)
     have S:∀g:Nat,Same st (SortSt.mk' (kindOf st') (arrOf st') (pendingOf st') g (failedOf st')):=fun g=>⟨J.s.k,J.s.a,J.s.p,J.s.f⟩
     refine wpS_bind (wp_elem ep (wpS_bind (wp_gal ((S _).k.trans hk) ip (ua.sub (a.size - ia) (by omega)) (by omega) fun k hc=>?_)))
     dsimp only
     have m:=appA J.m k fun j x hj e y hy=>by
      have h5:=hc.2.1 j x hj e
      obtain ⟨i,h3,h4,e'⟩:=mem_drop hy
      have:=ub.leq h3 ep e'
      unfold bey at h5
      simp at h5
      omega
     have hc1:=hc.1
     refine wp_if0 (fun k0=>?_) ?_
     ·subst k0
      rw [ext0,if_neg (by simp;omega),if_neg (by simp;omega)]
      rfl
     by_cases z4:ia+k+1=a.size
     ·rw [if_pos (by simpa using z4)]
      exact wpS_pure (.inl ⟨_,_,_,_,_,_,_,rfl,fin2 (S _) m h1 z4⟩)
     rw [if_neg (by simpa using z4)]
     by_cases z5:ia+k=a.size
     ·rw [if_pos (by simpa using z5)]
      exact wpS_pure (.inl ⟨_,_,_,_,_,_,_,rfl,fin1 (S _) m (.inr (by omega))⟩)
     rw [if_neg (by simpa using z5)]
     refine wpS_bind (wp_elem ep ?_)
     have m':=pushB m ep fun y hy=>by
      obtain ⟨i,h3,h4,e'⟩:=mem_drop hy
      have h5:=hc.2.2 (i - ia) y (by omega) (by omega) (by rw [show ia+(i - ia)=i by omega];exact e')
      unfold bey at h5
      simp at h5
      omega
     by_cases z6:ib+1=b.size
     ·rw [if_pos (by simpa using z6)]
      exact wpS_pure (.inl ⟨_,_,_,_,_,_,_,rfl,fin1 (S _) m' (.inl (by omega))⟩)
     rw [if_neg (by simpa using z6)]
     obtain ⟨q,eq,iq⟩:=ua.get (show ia+k<a.size by omega)
     refine wpS_bind (wp_elem eq (wpS_bind (wp_gal ((S _).k.trans hk) iq (ub.sub (b.size - (ib+1)) (by omega)) (by omega) fun k' hc'=>?_)))
     dsimp only
     have m2:=appB m' k' fun j x hj e y hy=>by
      have h5:=hc'.2.1 j x hj e
      obtain ⟨i,h3,h4,e'⟩:=mem_drop hy
      have:=ua.leq h3 eq e'
      unfold bey at h5
      simp at h5
      omega
     have hc2:=hc'.1
     refine wp_if0 (fun k0=>?_) ?_
     ·subst k0
      rw [ext0,if_neg (by simp;omega)]
     by_cases z7:ib+1+k'=b.size
     ·rw [if_pos (by simpa using z7)]
      exact wpS_pure (.inl ⟨_,_,_,_,_,_,_,rfl,fin1 (S _) m2 (.inl (by omega))⟩)
     rw [if_neg (by simpa using z7)]
     refine wpS_bind (wp_elem eq ?_)
     have m3:=pushA m2 eq fun y hy=>by
      obtain ⟨i,h3,h4,e'⟩:=mem_drop hy
      have h5:=hc'.2.2 (i - (ib+1)) y (by omega) (by omega) (by rw [show ib+1+(i - (ib+1))=i by omega];exact e')
      unfold bey at h5
      simp at h5
      omega
     by_cases z8:ia+k+1+1=a.size
     ·rw [if_pos (by simpa using z8)]
      exact wpS_pure (.inl ⟨_,_,_,_,_,_,_,rfl,fin2 (S _) m3 h1 z8⟩)
     rw [if_neg (by simpa using z8)]
     by_cases z9:(decide (k<7) && decide (k'<7))=true
     ·rw [if_pos z9]
      exact wpS_pure (.inr ⟨_,_,_,_,_,_,rfl,⟨S _,by omega,by omega,m3⟩,by omega⟩)
     ·rw [if_neg z9]
      exact wpS_pure ⟨_,_,_,_,_,_,rfl,⟨S _,by omega,by omega,m3⟩,by omega⟩
end
end SR
namespace SR
def nk (p:Keyed):Int:=-kv p
theorem take_at {a:Array Keyed} {n:Nat} {p:Keyed} (h:0<n) (e:a[n - 1]? = some p):(a.toList.take n).reverse=p::(a.toList.take (n - 1)).reverse:=by
 obtain ⟨m,rfl⟩:∃m,n=m+1:=⟨n - 1,by omega⟩
 rw [Nat.add_sub_cancel] at e ⊢
 rw [List.take_succ,Array.getElem?_toList,e]
 simp
theorem take_cut (l:List Keyed) {m n:Nat} (h:m<=n):l.take n=l.take m++(l.drop m).take (n - m):=by
 conv=>lhs;rw [<-List.take_append_drop m (l.take n)]
 rw [List.take_take,Nat.min_eq_left h,List.drop_take]
theorem mem_take {a:Array Keyed} {n:Nat} {x:Keyed} (h:x∈a.toList.take n):∃j,j<n/\j<a.size/\a[j]? = some x:=by
 obtain ⟨j,hj,e⟩:=List.getElem_of_mem h
 rw [List.length_take,Array.length_toList] at hj
 rw [List.getElem_take] at e
 refine ⟨j,by omega,by omega,?_⟩
 rw [<-Array.getElem?_toList,List.getElem?_eq_getElem (by rw [Array.length_toList];omega),e]
theorem Up.srtR {a:Array Keyed} (u:Up a 0 a.size) (n:Nat):Srt nk (a.toList.take n).reverse:=by
 refine List.pairwise_reverse.mpr (List.pairwise_iff_getElem.mpr fun x y hx hy hxy=>?_)
 rw [List.length_take,Array.length_toList] at hx hy
 have:=u.leq (i:=x) (j:=y) (p:=(a.toList.take n)[x]) (q:=(a.toList.take n)[y]) (by omega) (by rw [List.getElem_take,<-Array.getElem?_toList,List.getElem?_eq_getElem]) (by rw [List.getElem_take,<-Array.getElem?_toList,List.getElem?_eq_getElem])
 unfold nk
 omega
abbrev JH (a b out:Array Keyed) (na nb:Nat):Prop:=Mg nk (a.toList++b.toList) out.toList (a.toList.take na).reverse (b.toList.take nb).reverse
section
variable {a b out:Array Keyed} {na nb:Nat} {p:Keyed}
theorem pushAh (m:JH a b out na nb) (h0:0<na) (e:a[na - 1]? = some p) (h:∀j y,j<nb->b[j]? = some y->kv y<=kv p):JH a b (out.push p) (na - 1) nb:=by
 unfold JH at m ⊢
 rw [Array.toList_push]
 rw [take_at h0 e] at m
 exact Mg.cut (c:=[p]) m fun x hx y hy=>by
  rw [List.mem_singleton.mp hx]
  obtain ⟨j,h1,_,e⟩:=mem_take (List.mem_reverse.mp hy)
  have:=h j y h1 e
  unfold nk;omega
theorem pushBh (m:JH a b out na nb) (h0:0<nb) (e:b[nb - 1]? = some p) (h:∀j y,j<na->a[j]? = some y->kv y<=kv p):JH a b (out.push p) na (nb - 1):=by
 unfold JH at m ⊢
 rw [Array.toList_push]
 rw [take_at h0 e] at m
 exact Mg.cutB (c:=[p]) m fun x hx y hy=>by
  rw [List.mem_singleton.mp hx]
  obtain ⟨j,h1,_,e⟩:=mem_take (List.mem_reverse.mp hy)
  have:=h j y h1 e
  unfold nk;omega
theorem appAh (m:JH a b out na nb) {t:Nat} (ht:t<=na) (h:∀i j x y,t<=i->i<na->a[i]? = some x->j<nb->b[j]? = some y->kv y<=kv x):JH a b (out++(a.extract t na).reverse) t nb:=by
 unfold JH at m ⊢
 rw [Array.toList_append,Array.toList_reverse,ext_toList]
 rw [take_cut a.toList ht,List.reverse_append] at m
 exact m.cut fun x hx y hy=>by
  obtain ⟨i,h1,h2,e1⟩:=mem_chunk (List.mem_reverse.mp hx)
  obtain ⟨j,h3,_,e2⟩:=mem_take (List.mem_reverse.mp hy)
  have:=h (t+i) j x y (by omega) (by omega) e1 h3 e2
  unfold nk;omega
theorem appBh (m:JH a b out na nb) {t:Nat} (ht:t<=nb) (h:∀i j x y,t<=i->i<nb->b[i]? = some x->j<na->a[j]? = some y->kv y<=kv x):JH a b (out++(b.extract t nb).reverse) na t:=by
 unfold JH at m ⊢
 rw [Array.toList_append,Array.toList_reverse,ext_toList]
 rw [take_cut b.toList ht,List.reverse_append] at m
 exact m.cutB fun x hx y hy=>by
  obtain ⟨i,h1,h2,e1⟩:=mem_chunk (List.mem_reverse.mp hx)
  obtain ⟨j,h3,_,e2⟩:=mem_take (List.mem_reverse.mp hy)
  have:=h (t+i) j x y (by omega) (by omega) e1 h3 e2
  unfold nk;omega
theorem srt_rev {l:List Keyed} (h:Srt nk l):Srt kv l.reverse:=List.pairwise_reverse.mpr (h.imp fun {x y} h=>by unfold nk at h;omega)
theorem ext_low (a:Array Keyed) (n:Nat):(a.extract 0 n).toList=a.toList.take n:=by rw [ext_toList];rfl
theorem finh1 {st st':SortSt} (hs:Same st st') (m:JH a b out na nb) (h:na=0\/nb=0):Fin st a b (a.extract 0 na++b.extract 0 nb++out.reverse) st':=by
 refine ⟨hs,?_⟩
 have:=m.end_ fun x hx y hy=>by
  obtain ⟨i,h1,h2,_⟩:=mem_take (List.mem_reverse.mp hx)
  obtain ⟨j,h3,h4,_⟩:=mem_take (List.mem_reverse.mp hy)
  omega
 have e:(a.extract 0 na++b.extract 0 nb++out.reverse).toList=(out.toList++(b.toList.take nb).reverse++(a.toList.take na).reverse).reverse:=by
  rw [Array.toList_append,Array.toList_append,ext_low,ext_low,Array.toList_reverse]
  simp
 rw [e]
 exact ⟨(List.reverse_perm _).trans this.1,srt_rev this.2⟩
theorem finh2 {st st':SortSt} (hs:Same st st') (m:JH a b out na nb) (h0:∀x y,b[0]? = some x->y∈a.toList->kv x<=kv y) (h:nb=1):Fin st a b (b.extract 0 nb++a.extract 0 na++out.reverse) st':=by
 refine ⟨hs,?_⟩
 have:=m.swap.end_ fun x hx y hy=>by
  obtain ⟨j,h3,h4,e⟩:=mem_take (List.mem_reverse.mp hy)
  obtain rfl:j=0:=by omega
  have:=h0 y x e (List.mem_of_mem_take (List.mem_reverse.mp hx))
  unfold nk;omega
 have e:(b.extract 0 nb++a.extract 0 na++out.reverse).toList=(out.toList++(a.toList.take na).reverse++(b.toList.take nb).reverse).reverse:=by
  rw [Array.toList_append,Array.toList_append,ext_low,ext_low,Array.toList_reverse]
  simp
 rw [e]
 exact ⟨(List.reverse_perm _).trans this.1,srt_rev this.2⟩
structure JK (st:SortSt) (a b out:Array Keyed) (na nb:Nat) (st':SortSt):Prop where
 s:Same st st'
 la:0<na
 lb:1<nb
 ma:na<=a.size
 mb:nb<=b.size
 m:JH a b out na nb
end
theorem ext0r (o a:Array Keyed) {i j:Nat} (h:j<=i):o++(a.extract i j).reverse=o:=by
 apply Array.ext'
 rw [Array.toList_append,Array.toList_reverse,ext_toList,show j - i=0 by omega]
 simp
section
variable {prog:Program} {w:World} {A:Around} {E:Value->Shared->Prop} {s:Shared}
theorem wp_mhi {st:SortSt} {a b:Array Keyed} {Q:Array Keyed->SortSt->Prop} (hk:kindOf st=oneType') (ua:Up a 0 a.size) (ub:Up b 0 b.size) (ha:0<a.size) (hb:0<b.size)
  (h0:∀x y,b[0]? = some x->y∈a.toList->kv x<=kv y) (h1:∀x∈b.toList,∀y,a[a.size - 1]? = some y->kv x<=kv y)
  (h:∀out st',Fin st a b out st'->Q out st'):wpS (model prog w) A E s (mhi a b) Q st:=by
 obtain ⟨a0,f0,j0⟩:=ua.get (show a.size - 1<a.size by omega)
 refine wpS_bind (wpS_lift (wpAny_rule ⟨rfl,?_⟩))
 refine wpS_bind (wp_elem f0 ?_)
 have s0:Same st st:=⟨rfl,rfl,rfl,rfl⟩
 have m0:JH a b #[a0] (a.size - 1) b.size:=by
  have m:JH a b #[] a.size b.size:=⟨by simp only [List.nil_append];exact List.Perm.append ((List.reverse_perm _).trans (by rw [List.take_of_length_le (by simp)])) ((List.reverse_perm _).trans (by rw [List.take_of_length_le (by simp)])),.nil,ua.srtR _,ub.srtR _,by simp,by simp⟩
  exact pushAh m ha f0 fun j y _ e=>h1 y (by rw [<-Array.getElem?_toList] at e;exact List.mem_of_getElem? e) a0 f0
 dsimp only
 by_cases z1:a.size - 1=0
 ·rw [if_pos (by simp [z1])];exact wpS_pure (h _ _ (finh1 s0 m0 (.inl z1)))
 rw [if_neg (by simpa using z1)]
 by_cases z2:b.size=1
 ·rw [if_pos (by simp [z2])];exact wpS_pure (h _ _ (finh2 s0 m0 h0 z2))
 rw [if_neg (by simpa using z2)]
 refine wpS_bind (wpS_get ?_)
 refine wpS_bind (wpS_mono (wpS_forRange (I:=fun x c st'=>∃out na nb mg,c=(none,na,nb,out,mg)/\JK st a b out na nb st'/\na+nb+x<a.size+b.size)
   (Q:=fun c st'=>∃r out na nb mg,c=(some r,na,nb,out,mg)/\Fin st a b r st') ?step ?fin ⟨_,_,_,_,rfl,⟨s0,by omega,by omega,by omega,by omega,m0⟩,by omega⟩) ?post)
 case fin=>
  rintro c st' ⟨out,ia,ib,mg,rfl,J,hx⟩
  have:=J.la;have:=J.lb
  omega
 case post=>
  rintro c st' ⟨r,out,ia,ib,mg,rfl,F⟩
  exact wpS_pure (h _ _ F)
 case step=>
  rintro x c st' _ hx ⟨out,na,nb,mg,rfl,J,hx⟩
  dsimp only
  refine wpS_bind (wpS_mono (wpS_forRange (I:=fun y c st'=>∃out na nb ac bc,c=(none,na,nb,out,ac,bc)/\JK st a b out na nb st'/\na+nb+x+y<a.size+b.size)
   (Q:=fun c st'=>(∃r out na nb ac bc,c=(some r,na,nb,out,ac,bc)/\Fin st a b r st')\/(∃out na nb ac bc,c=(none,na,nb,out,ac,bc)/\JK st a b out na nb st'/\na+nb+x+1<a.size+b.size)) ?step1 ?fin1 ⟨_,_,_,_,_,rfl,J,by omega⟩) ?post1)
  case fin1=>
   rintro c st' ⟨out,ia,ib,ac,bc,rfl,J,hx⟩
   have:=J.la;have:=J.lb
   omega
  case step1=>
   rintro y c st' _ hy ⟨out,na,nb,ac,bc,rfl,J,hx⟩
   have la:=J.la;have lb:=J.lb;have ma:=J.ma;have mb:=J.mb
   obtain ⟨p,ep,ip⟩:=ub.get (show nb - 1<b.size by omega)
   obtain ⟨q,eq,iq⟩:=ua.get (show na - 1<a.size by omega)
   dsimp only
   refine wpS_bind (wp_elem ep (wpS_bind (wp_elem eq (wpS_bind (wp_lt (J.s.k.trans hk) ip iq ?_)))))
   dsimp only
   by_cases z:kv p<kv q
   ·rw [if_pos (by simpa using z)]
    refine wpS_bind (wp_elem eq ?_)
    have m:=pushAh J.m la eq fun j y hj e=>by
     have:=ub.leq (show j<=nb - 1 by omega) e ep
     omega
    by_cases z3:na - 1=0
    ·rw [if_pos (by simpa using z3)]
     exact wpS_pure (.inl ⟨_,_,_,_,_,_,rfl,finh1 J.s m (.inl z3)⟩)
    rw [if_neg (by simpa using z3)]
    split
    ·exact wpS_pure (.inr ⟨_,_,_,_,_,rfl,⟨J.s,by omega,lb,by omega,mb,m⟩,by omega⟩)
    ·exact wpS_pure ⟨_,_,_,_,_,rfl,⟨J.s,by omega,lb,by omega,mb,m⟩,by omega⟩
   ·rw [if_neg (by simpa using z)]
    refine wpS_bind (wp_elem ep ?_)
    have m:=pushBh J.m (by omega) ep fun j y hj e=>by
     have:=ua.leq (show j<=na - 1 by omega) e eq
     omega
    by_cases z3:nb - 1=1
    ·rw [if_pos (by simpa using z3)]
     exact wpS_pure (.inl ⟨_,_,_,_,_,_,rfl,finh2 J.s m h0 z3⟩)
    rw [if_neg (by simpa using z3)]
    split
    ·exact wpS_pure (.inr ⟨_,_,_,_,_,rfl,⟨J.s,la,by omega,ma,by omega,m⟩,by omega⟩)
    ·exact wpS_pure ⟨_,_,_,_,_,rfl,⟨J.s,la,by omega,ma,by omega,m⟩,by omega⟩
  case post1=>
   rintro c st' (⟨r,out,ia,ib,ac,bc,rfl,F⟩|⟨out,na,nb,ac,bc,rfl,J,hx⟩)
   ·exact wpS_pure ⟨_,_,_,_,_,rfl,F⟩
   dsimp only
   refine wpS_bind (wpS_lift (wpAny_rule ⟨rfl,?_⟩))
   refine wpS_bind (wpS_mono (wpS_forRange (I:=fun y c st'=>∃out na nb mg ac bc,c=(none,na,nb,out,mg,ac,bc)/\JK st a b out na nb st'/\na+nb+x+y+1<a.size+b.size)
    (Q:=fun c st'=>(∃r out na nb mg ac bc,c=(some r,na,nb,out,mg,ac,bc)/\Fin st a b r st')\/(∃out na nb mg ac bc,c=(none,na,nb,out,mg,ac,bc)/\JK st a b out na nb st'/\na+nb+x+1<a.size+b.size)) ?step2 ?fin2 ⟨_,_,_,_,_,_,rfl,J,by omega⟩) ?post2)
   case fin2=>
    rintro c st' ⟨out,ia,ib,mg,ac,bc,rfl,J,hx⟩
    have:=J.la;have:=J.lb
    omega
   case post2=>
    rintro c st' (⟨r,out,ia,ib,mg,ac,bc,rfl,F⟩|⟨out,na,nb,mg,ac,bc,rfl,J,hx⟩)
    ·exact wpS_pure ⟨_,_,_,_,_,rfl,F⟩
    dsimp only
    exact wpS_bind (wpS_modify (wpS_pure ⟨_,_,_,_,rfl,⟨⟨J.s.k,J.s.a,J.s.p,J.s.f⟩,J.la,J.lb,J.ma,J.mb,J.m⟩,by omega⟩))
   case step2=>
    rintro y c st' _ hy ⟨out,na,nb,mg,ac,bc,rfl,J,hx⟩
    have la:=J.la;have lb:=J.lb;have ma:=J.ma;have mb:=J.mb
    obtain ⟨p,ep,ip⟩:=ub.get (show nb - 1<b.size by omega)
    dsimp only
    by_cases hm:mg > 1
    rw [if_pos hm]
    rotate_left
    rw [if_neg hm]
    all_goals
     refine wpS_bind (wpS_modify ?_)
     have S:∀g:Nat,Same st (SortSt.mk' (kindOf st') (arrOf st') (pendingOf st') g (failedOf st')):=fun g=>⟨J.s.k,J.s.a,J.s.p,J.s.f⟩
     refine wpS_bind (wp_elem ep (wpS_bind (wp_gal ((S _).k.trans hk) ip (ua.sub na (by omega)) (by omega) fun t hc=>?_)))
     dsimp only
     have hc1:=hc.1
     have m:=appAh J.m hc1 fun i j x y hi hn e hj e'=>by
      have h5:=hc.2.2 i x hi hn (by rw [Nat.zero_add];exact e)
      have:=ub.leq (show j<=nb - 1 by omega) e' ep
      unfold bey at h5
      simp at h5
      omega
     refine wp_if0 (fun k0=>?_) ?_
     ·obtain rfl:t=na:=by omega
      rw [ext0r _ _ (Nat.le_refl _),if_neg (by simp;omega)]
     by_cases z4:t=0
     ·rw [if_pos (by simpa using z4)]
      exact wpS_pure (.inl ⟨_,_,_,_,_,_,_,rfl,finh1 (S _) m (.inl z4)⟩)
     rw [if_neg (by simpa using z4)]
     refine wpS_bind (wp_elem ep ?_)
     have m':=pushBh m (by omega) ep fun i y hi e=>by
      have h5:=hc.2.1 i y hi (by rw [Nat.zero_add];exact e)
      unfold bey at h5
      simp at h5
      omega
     by_cases z6:nb - 1=1
     ·rw [if_pos (by simpa using z6)]
      exact wpS_pure (.inl ⟨_,_,_,_,_,_,_,rfl,finh2 (S _) m' h0 z6⟩)
     rw [if_neg (by simpa using z6)]
     obtain ⟨q,eq,iq⟩:=ua.get (show t - 1<a.size by omega)
     refine wpS_bind (wp_elem eq (wpS_bind (wp_gal ((S _).k.trans hk) iq (ub.sub (nb - 1) (by omega)) (by omega) fun u hc'=>?_)))
     dsimp only
     have hc2:=hc'.1
     have m2:=appBh m' hc2 fun i j x y hi hn e hj e'=>by
      have h5:=hc'.2.2 i x hi hn (by rw [Nat.zero_add];exact e)
      have:=ua.leq (show j<=t - 1 by omega) e' eq
      unfold bey at h5
      simp at h5
      omega
     refine wp_if0 (fun k0=>?_) ?_
     ·obtain rfl:u=nb - 1:=by omega
      rw [ext0r _ _ (Nat.le_refl _),if_neg (by simp;omega),if_neg (by simp;omega)]
     by_cases z7:u=1
     ·rw [if_pos (by simpa using z7)]
      exact wpS_pure (.inl ⟨_,_,_,_,_,_,_,rfl,finh2 (S _) m2 h0 z7⟩)
     rw [if_neg (by simpa using z7)]
     by_cases z5:u=0
     ·rw [if_pos (by simpa using z5)]
      exact wpS_pure (.inl ⟨_,_,_,_,_,_,_,rfl,finh1 (S _) m2 (.inr z5)⟩)
     rw [if_neg (by simpa using z5)]
     refine wpS_bind (wp_elem eq ?_)
     have m3:=pushAh m2 (by omega) eq fun i y hi e=>by
      have h5:=hc'.2.1 i y hi (by rw [Nat.zero_add];exact e)
      unfold bey at h5
      simp at h5
      omega
     by_cases z8:t - 1=0
     ·rw [if_pos (by simpa using z8)]
      exact wpS_pure (.inl ⟨_,_,_,_,_,_,_,rfl,finh1 (S _) m3 (.inl z8)⟩)
     rw [if_neg (by simpa using z8)]
     by_cases z9:(decide (na - t<7) && decide (nb - 1 - u<7))=true
     ·rw [if_pos z9]
      exact wpS_pure (.inr ⟨_,_,_,_,_,_,rfl,⟨S _,by omega,by omega,by omega,by omega,m3⟩,by omega⟩)
     ·rw [if_neg z9]
      exact wpS_pure ⟨_,_,_,_,_,_,rfl,⟨S _,by omega,by omega,by omega,by omega,m3⟩,by omega⟩
end
end SR
namespace SR
structure Bs (b:SortSt) (lo:Nat) (st:SortSt):Prop where
 perm:(arrOf st).Perm (arrOf b)
 kind:kindOf st=kindOf b
 fail:failedOf st=failedOf b
 pend:pendingOf st=pendingOf b
 low:∀i,i<lo->(arrOf st)[i]? = (arrOf b)[i]?
theorem Bs.refl (b:SortSt) (lo:Nat):Bs b lo b:=⟨Array.Perm.refl _,rfl,rfl,rfl,fun _ _=>rfl⟩
theorem Bs.size {b st:SortSt} {lo:Nat} (h:Bs b lo st):(arrOf st).size=(arrOf b).size:=h.perm.size_eq
theorem Bs.mirror {b st:SortSt} {lo i j:Nat} (h:Bs b lo st) (hi:lo<=i) (hj:j<=(arrOf b).size):Bs b lo (setArr st (PyProof.Rows.mirror (arrOf st) i j ((j - i) / 2))):=
 ⟨(mirror_perm _ _ _ _).trans h.perm,h.kind,h.fail,h.pend,fun k hk=>by
  show (PyProof.Rows.mirror (arrOf st) i j ((j - i) / 2))[k]? = _
  rw [getElem?_mirror_all (by rw [h.size];exact hj),if_neg (by omega)]
  exact h.low k hk⟩
theorem Bs.bubble {b st:SortSt} {lo i d:Nat} (h:Bs b lo st) (hd:lo+d<=i) (hi:i<(arrOf b).size):Bs b lo (setArr st (PyProof.Rows.bubble (arrOf st) i d)):=
 ⟨(bubble_perm _ _ _).trans h.perm,h.kind,h.fail,h.pend,fun k hk=>by
  show (PyProof.Rows.bubble (arrOf st) i d)[k]? = _
  rw [getElem?_bubble (by rw [h.size];exact hi) d (by omega),if_neg (by omega),if_neg (by omega)]
  exact h.low k hk⟩
def SoF (xs:Array Keyed) (lo n:Nat):Prop:=∀i j,i<=j->j<n->K xs (lo+i)<=K xs (lo+j)
def NiF (xs:Array Keyed) (lo n:Nat):Prop:=∀i j,i<=j->j<n->K xs (lo+j)<=K xs (lo+i)
theorem SoF.one (xs:Array Keyed) (lo:Nat) {n:Nat} (h:n<=1):SoF xs lo n:=fun i j hij hj=>by
 obtain rfl:i=j:=by omega
 exact Int.le_refl _
theorem SoF.more {xs:Array Keyed} {lo n:Nat} (h:SoF xs lo n) (g:n=0\/K xs (lo+n - 1)<=K xs (lo+n)):SoF xs lo (n+1):=fun i j hij hj=>by
 by_cases z:j<n
 ·exact h i j hij z
 obtain rfl:j=n:=by omega
 by_cases y:i=j
 ·rw [y];exact Int.le_refl _
 rcases g with g|g
 ·omega
 ·have:=h i (j - 1) (by omega) (by omega)
  rw [show lo+(j - 1)=lo+j - 1 by omega] at this
  omega
theorem NiF.more {xs:Array Keyed} {lo n:Nat} (h:NiF xs lo n) (g:n=0\/K xs (lo+n)<=K xs (lo+n - 1)):NiF xs lo (n+1):=fun i j hij hj=>by
 by_cases z:j<n
 ·exact h i j hij z
 obtain rfl:j=n:=by omega
 by_cases y:i=j
 ·rw [y];exact Int.le_refl _
 rcases g with g|g
 ·omega
 ·have:=h i (j - 1) (by omega) (by omega)
  rw [show lo+(j - 1)=lo+j - 1 by omega] at this
  omega
section
variable {prog:Program} {w:World} {A:Around} {E:Value->Shared->Prop} {s:Shared} {b:SortSt} {lo nrem:Nat}
theorem wp_at {st:SortSt} {i j:Nat} {Q:Option Bool->SortSt->Prop} (h0:IntKeys (arrOf b)) (hk:kindOf b=oneType') (hB:Bs b lo st) (hi:i<(arrOf b).size) (hj:j<(arrOf b).size)
  (h:Q (some (decide (K (arrOf st) i<K (arrOf st) j))) st):wpS (model prog w) A E s (ltAt' i j) Q st:=by
 have at_:∀i,i<(arrOf b).size->∃t q,(arrOf st)[i]? = some (.int (K (arrOf st) i) t,q):=fun i hi=>by
  have hi':i<(arrOf st).size:=by rw [hB.size];exact hi
  obtain ⟨n,t,e⟩:=h0 _ ((Array.perm_iff_toList_perm.mp hB.perm).mem_iff.mp (show (arrOf st)[i]∈(arrOf st).toList by simp))
  have e1:(arrOf st)[i]? = some (.int n t,(arrOf st)[i].2):=by rw [getElem?_pos _ i hi'];exact congrArg some (Prod.ext e rfl)
  have e2:K (arrOf st) i=n:=by unfold K;rw [e1];rfl
  exact ⟨t,_,by rw [e2];exact e1⟩
 obtain ⟨t,p,e1⟩:=at_ i hi
 obtain ⟨u,q,e2⟩:=at_ j hj
 exact wpS_ltAt (hB.kind.trans hk) e1 e2 h
theorem wp_asc {st:SortSt} {a:Nat} {f:Nat->AscSt->StateT SortSt Sem (ForInStep AscSt)} (ha:1<=a) (han:a<=nrem) (hs:SoF (arrOf st) lo a)
  (hf:∀(x n:Nat) (Q':ForInStep AscSt->SortSt->Prop),1<=n->n<nrem->(K (arrOf st) (lo+n)<K (arrOf st) (lo+n - 1)->Q' (.done (none,n)) st)->(K (arrOf st) (lo+n - 1)<=K (arrOf st) (lo+n)->Q' (.yield (none,n+1)) st)->wpS (model prog w) A E s (f x (none,n)) Q' st) :
  wpS (model prog w) A E s (forIn [a:nrem] ((none,a):AscSt) f) (fun c st'=>st'=st/\∃n,c=(none,n)/\a<=n/\n<=nrem/\SoF (arrOf st) lo n/\(n=nrem\/K (arrOf st) (lo+n)<K (arrOf st) (lo+n - 1))) st:=by
 refine wpS_forRange (I:=fun x c st'=>st'=st/\c=(none,x)/\SoF (arrOf st) lo x) ?_ ?_ ⟨rfl,rfl,hs⟩
 ·rintro x c st' h1 h2 ⟨rfl,rfl,g⟩
  exact hf x x _ (by omega) h2 (fun l=>⟨rfl,x,rfl,h1,by omega,g,.inr l⟩) (fun l=>⟨rfl,rfl,g.more (.inr l)⟩)
 ·rintro c st' ⟨rfl,rfl,g⟩
  rw [Nat.max_eq_right han] at g ⊢
  exact ⟨rfl,_,rfl,han,Nat.le_refl _,g,.inl rfl⟩
theorem wp_count {Q:Option Nat->SortSt->Prop} (h0:IntKeys (arrOf b)) (hk:kindOf b=oneType') (hn:lo+nrem<=(arrOf b).size) (h1:1<=nrem)
  (h:∀n st',Bs b lo st'->1<=n->n<=nrem->SoF (arrOf st') lo n->Q (some n) st'):wpS (model prog w) A E s (countRun' lo nrem) Q b:=by
 have asc:∀(st:SortSt) (a:Nat) (f:Nat->AscSt->StateT SortSt Sem (ForInStep AscSt)) (k:AscSt->StateT SortSt Sem (Option Nat)) (Q1:Option Nat->SortSt->Prop),Bs b lo st->1<=a->a<=nrem->SoF (arrOf st) lo a->
   (∀(x n:Nat) (Q':ForInStep AscSt->SortSt->Prop),1<=n->n<nrem->(K (arrOf st) (lo+n)<K (arrOf st) (lo+n - 1)->Q' (.done (none,n)) st)->(K (arrOf st) (lo+n - 1)<=K (arrOf st) (lo+n)->Q' (.yield (none,n+1)) st)->wpS (model prog w) A E s (f x (none,n)) Q' st)->
   (∀n,a<=n->n<=nrem->SoF (arrOf st) lo n->(n=nrem\/K (arrOf st) (lo+n)<K (arrOf st) (lo+n - 1))->wpS (model prog w) A E s (k (none,n)) Q1 st)->
   wpS (model prog w) A E s (forIn [a:nrem] ((none,a):AscSt) f >>= k) Q1 st:=fun st a f k Q1 hB ha han hs hf hk'=>by
  refine wpS_bind (wpS_mono (wp_asc ha han hs hf) ?_)
  rintro c st' ⟨rfl,n,rfl,g1,g2,g3,g4⟩
  exact hk' n g1 g2 g3 g4
 have body:∀(st:SortSt) (x n:Nat) (Q':ForInStep AscSt->SortSt->Prop),Bs b lo st->1<=n->n<nrem->(K (arrOf st) (lo+n)<K (arrOf st) (lo+n - 1)->Q' (.done (none,n)) st)->(K (arrOf st) (lo+n - 1)<=K (arrOf st) (lo+n)->Q' (.yield (none,n+1)) st)->wpS (model prog w) A E s (ltAt' (lo+n) (lo+n - 1)) (fun r st'=>st'=st/\∃c:Bool,r=some c/\(c=true->Q' (.done (none,n)) st)/\(c=false->Q' (.yield (none,n+1)) st)) st:=fun st x n Q' hB g1 g2 q1 q2=>
  wp_at h0 hk hB (by omega) (by omega) ⟨rfl,_,rfl,fun c=>q1 (of_decide_eq_true c),fun c=>q2 (Int.not_lt.mp (of_decide_eq_false c))⟩
 refine asc b 1 _ _ _ (Bs.refl b lo) (Nat.le_refl 1) h1 (SoF.one _ _ (Nat.le_refl 1)) (fun x n Q' g1 g2 q1 q2=>?_) fun n g1 g2 g3 g4=>?_
 ·dsimp only
  refine wpS_bind (wpS_mono (body b x n Q' (Bs.refl b lo) g1 g2 q1 q2) ?_)
  rintro r st' ⟨rfl,c,rfl,c1,c2⟩
  cases c with
  | true=>exact wpS_pure (c1 rfl)
  | false=>exact wpS_pure (c2 rfl)
 dsimp only
 by_cases z1:n=nrem
 ·rw [if_pos (by simpa using z1)]
  exact wpS_pure (h n b (Bs.refl b lo) g1 g2 g3)
 rw [if_neg (by simpa using z1)]
 have less:K (arrOf b) (lo+n)<K (arrOf b) (lo+n - 1):=g4.resolve_left z1
 by_cases hgt:n > 1
 rw [if_pos hgt]
 refine wpS_bind (wp_at h0 hk (Bs.refl b lo) (by omega) (by omega) ?_)
 dsimp only
 by_cases hrose:K (arrOf b) lo<K (arrOf b) (lo+n - 1)
 ·rw [if_pos (by simpa using hrose)]
  exact wpS_pure (h n b (Bs.refl b lo) g1 g2 g3)
 rw [if_neg (by simpa using hrose)]
 refine wpS_bind (wpS_reverse ?_)
 have all:∀k,lo<=k->k<lo+n->K (arrOf b) k=K (arrOf b) (lo+n - 1):=fun k k1 k2=>by
  have a1:=g3 0 (k - lo) (by omega) (by omega)
  have a2:=g3 (k - lo) (n - 1) (by omega) (by omega)
  rw [show lo+(k - lo)=k by omega] at a1 a2
  rw [show lo+(n - 1)=lo+n - 1 by omega] at a2
  rw [Nat.add_zero] at a1
  omega
 have hB1:=(Bs.refl b lo).mirror (i:=lo) (j:=lo+n) (Nat.le_refl _) (by omega)
 have hN:NiF (arrOf (setArr b (PyProof.Rows.mirror (arrOf b) lo (lo+n) ((lo+n - lo) / 2)))) lo (n+1):=by
  have e:=K_mirror_equal (xs:=arrOf b) (i:=lo) (j:=lo+n) (by omega) all
  refine NiF.more (fun i j hij hj=>?_) (.inr ?_)
  ·show K (PyProof.Rows.mirror (arrOf b) lo (lo+n) ((lo+n - lo) / 2)) (lo+j)<=K (PyProof.Rows.mirror (arrOf b) lo (lo+n) ((lo+n - lo) / 2)) (lo+i)
   rw [e,e,all _ (by omega) (by omega),all (lo+i) (by omega) (by omega)]
   exact Int.le_refl _
  ·show K (PyProof.Rows.mirror (arrOf b) lo (lo+n) ((lo+n - lo) / 2)) (lo+n)<=K (PyProof.Rows.mirror (arrOf b) lo (lo+n) ((lo+n - lo) / 2)) (lo+n - 1)
   rw [e,e];omega
 generalize setArr b (PyProof.Rows.mirror (arrOf b) lo (lo+n) ((lo+n - lo) / 2))=st1 at hB1 hN ⊢
 rotate_left
 rw [if_neg hgt]
 have hN:NiF (arrOf b) lo (n+1):=NiF.more (fun i j hij hj=>by
  obtain rfl:i=j:=by omega
  exact Int.le_refl _) (.inr (by omega))
 generalize hst:b=st1 at hN ⊢
 have hB1:Bs b lo st1:=by rw [<-hst];exact Bs.refl b lo
 all_goals
  refine wpS_bind (wpS_lift (wpAny_rule ⟨rfl,?_⟩))
  refine wpS_bind (wpS_mono (wpS_forRange (I:=fun x c st'=>∃neq,c=(none,x,neq)/\Bs b lo st'/\NiF (arrOf st') lo x/\neq+1<=x/\(∀k,lo+x - (neq+1)<=k->k<lo+x->K (arrOf st') k=K (arrOf st') (lo+x - 1)))
   (Q:=fun c st'=>∃m neq,c=(none,m,neq)/\n+1<=m/\m<=nrem/\Bs b lo st'/\NiF (arrOf st') lo m/\neq+1<=m/\(∀k,lo+m - (neq+1)<=k->k<lo+m->K (arrOf st') k=K (arrOf st') (lo+m - 1))) ?step ?fin ⟨0,rfl,hB1,hN,by omega,fun k k1 k2=>by rw [show k=lo+(n+1) - 1 by omega]⟩) ?post)
  case fin=>
   rintro c st' ⟨neq,rfl,i1,i2,i3,i4⟩
   rw [Nat.max_eq_right (by omega)] at i2 i3 i4 ⊢
   exact ⟨nrem,neq,rfl,by omega,Nat.le_refl _,i1,i2,i3,i4⟩
  case step=>
   rintro x c st' hx1 hx2 ⟨neq,rfl,i1,i2,i3,i4⟩
   dsimp only
   refine wpS_bind (wp_at h0 hk i1 (by omega) (by omega) ?_)
   dsimp only
   have hz:=i1.size
   by_cases l1:K (arrOf st') (lo+x)<K (arrOf st') (lo+x - 1)
   ·rw [if_pos (by simpa using l1)]
    by_cases q0:neq > 0
    ·rw [if_pos q0]
     have e:=K_mirror_equal (xs:=arrOf st') (i:=lo+x - (neq+1)) (j:=lo+x) (by omega) i4
     refine wpS_bind (wpS_reverse (wpS_pure ⟨0,rfl,i1.mirror (by omega) (by omega),NiF.more (fun i j hij hj=>?_) (.inr ?_),by omega,fun k k1 k2=>by rw [show k=lo+(x+1) - 1 by omega]⟩))
     ·show K (PyProof.Rows.mirror _ _ _ _) (lo+j)<=K (PyProof.Rows.mirror _ _ _ _) (lo+i)
      rw [e,e];exact i2 i j hij hj
     ·show K (PyProof.Rows.mirror _ _ _ _) (lo+x)<=K (PyProof.Rows.mirror _ _ _ _) (lo+x - 1)
      rw [e,e];omega
    ·rw [if_neg q0]
     exact wpS_pure ⟨0,rfl,i1,i2.more (.inr (by omega)),by omega,fun k k1 k2=>by rw [show k=lo+(x+1) - 1 by omega]⟩
   ·rw [if_neg (by simpa using l1)]
    refine wpS_bind (wp_at h0 hk i1 (by omega) (by omega) ?_)
    dsimp only
    by_cases l2:K (arrOf st') (lo+x - 1)<K (arrOf st') (lo+x)
    ·rw [if_pos (by simpa using l2)]
     exact wpS_pure ⟨x,neq,rfl,hx1,by omega,i1,i2,i3,i4⟩
    ·rw [if_neg (by simpa using l2)]
     refine wpS_pure ⟨neq+1,rfl,i1,i2.more (.inr (by omega)),by omega,fun k k1 k2=>?_⟩
     rw [show lo+(x+1) - 1=lo+x by omega]
     by_cases y:k=lo+x
     ·rw [y]
     ·rw [i4 k (by omega) (by omega)];omega
  case post=>
   rintro c st' ⟨m,neq,rfl,m1,m2,i1,i2,i3,i4⟩
   dsimp only
   have hz:=i1.size
   by_cases q0:neq > 0
   rw [if_pos q0]
   refine wpS_bind (wpS_reverse ?_)
   have i5:=i1.mirror (i:=lo+m - (neq+1)) (j:=lo+m) (by omega) (by omega)
   have i6:NiF (arrOf (setArr st' (PyProof.Rows.mirror (arrOf st') (lo+m - (neq+1)) (lo+m) ((lo+m - (lo+m - (neq+1))) / 2)))) lo m:=fun i j hij hj=>by
    have e:=K_mirror_equal (xs:=arrOf st') (i:=lo+m - (neq+1)) (j:=lo+m) (by omega) i4
    show K (PyProof.Rows.mirror _ _ _ _) (lo+j)<=K (PyProof.Rows.mirror _ _ _ _) (lo+i)
    rw [e,e];exact i2 i j hij hj
   generalize setArr st' (PyProof.Rows.mirror (arrOf st') (lo+m - (neq+1)) (lo+m) ((lo+m - (lo+m - (neq+1))) / 2))=st2 at i5 i6 ⊢
   rotate_left
   rw [if_neg q0]
   have i5:=i1
   have i6:=i2
   generalize st'=st2 at i5 i6 ⊢
   all_goals
    have hz2:=i5.size
    refine wpS_bind (wpS_reverse ?_)
    have i7:=i5.mirror (i:=lo) (j:=lo+m) (Nat.le_refl _) (by omega)
    have i8:SoF (arrOf (setArr st2 (PyProof.Rows.mirror (arrOf st2) lo (lo+m) ((lo+m - lo) / 2)))) lo m:=fun i j hij hj=>by
     show K (PyProof.Rows.mirror (arrOf st2) lo (lo+m) ((lo+m - lo) / 2)) (lo+i)<=K (PyProof.Rows.mirror (arrOf st2) lo (lo+m) ((lo+m - lo) / 2)) (lo+j)
     rw [K_mirror (by omega),K_mirror (by omega),if_pos (by omega),if_pos (by omega)]
     have:=i6 (m - 1 - j) (m - 1 - i) (by omega) (by omega)
     rw [show lo+(m - 1 - j)=lo+(lo+m) - 1 - (lo+j) by omega,show lo+(m - 1 - i)=lo+(lo+m) - 1 - (lo+i) by omega] at this
     exact this
    generalize setArr st2 (PyProof.Rows.mirror (arrOf st2) lo (lo+m) ((lo+m - lo) / 2))=st3 at i7 i8 ⊢
    refine asc st3 m _ _ _ i7 (by omega) m2 i8 (fun x n Q' g1 g2 q1 q2=>?_) fun n' g1' g2' g3' g4'=>?_
    ·dsimp only
     refine wpS_bind (wpS_mono (body st3 x n Q' i7 g1 g2 q1 q2) ?_)
     rintro r st' ⟨rfl,c,rfl,c1,c2⟩
     cases c with
     | true=>exact wpS_pure (c1 rfl)
     | false=>exact wpS_pure (c2 rfl)
    ·exact wpS_pure (h n' st3 i7 (by omega) g2' g3')
theorem wp_binary {n ok:Nat} {st:SortSt} {Q:Bool->SortSt->Prop} (h0:IntKeys (arrOf b)) (hk:kindOf b=oneType') (hn:lo+n<=(arrOf b).size) (hok:ok<=n) (hB:Bs b lo st) (hs:SoF (arrOf st) lo ok)
  (h:∀st',Bs b lo st'->SoF (arrOf st') lo n->Q true st'):wpS (model prog w) A E s (binarySort' lo n ok) Q st:=by
 refine wpS_bind (wpS_mono (wpS_forRange (I:=fun k c st'=>c=(none,())/\Bs b lo st'/\SoF (arrOf st') lo (min k n)) (Q:=fun c st'=>c=(none,())/\Bs b lo st'/\SoF (arrOf st') lo n) ?step ?fin ?init) ?post)
 case init=>
  refine ⟨rfl,hB,?_⟩
  by_cases z:ok=0
  ·exact SoF.one _ _ (by omega)
  ·exact fun i j hij hj=>hs i j hij (by omega)
 case fin=>
  rintro c st' ⟨rfl,i1,i2⟩
  rw [show min (max (max ok 1) n) n=n by omega] at i2
  exact ⟨rfl,i1,i2⟩
 case post=>
  rintro c st' ⟨rfl,i1,i2⟩
  exact wpS_pure (h st' i1 i2)
 case step=>
  rintro k c st' k1 k2 ⟨rfl,i1,i2⟩
  rw [Nat.min_eq_left (by omega)] at i2
  dsimp only
  have hz:=i1.size
  refine wpS_bind (wpS_mono (wpS_forRange (I:=fun x c st2=>st2=st'/\∃l r,c=(none,l,r)/\l<=r/\r<=k/\r - l<=k - x/\(∀i,i<l->K (arrOf st') (lo+i)<=K (arrOf st') (lo+k))/\(∀i,r<=i->i<k->K (arrOf st') (lo+k)<K (arrOf st') (lo+i)))
   (Q:=fun c st2=>st2=st'/\∃l r,c=(none,l,r)/\l<=k/\(∀i,i<l->K (arrOf st') (lo+i)<=K (arrOf st') (lo+k))/\(∀i,l<=i->i<k->K (arrOf st') (lo+k)<K (arrOf st') (lo+i))) ?istep ?ifin ⟨rfl,0,k,rfl,by omega,by omega,by omega,fun i hi=>by omega,fun i a b=>by omega⟩) ?ipost)
  case ifin=>
   rintro c st2 ⟨rfl,l,r,rfl,j1,j2,j3,j4,j5⟩
   exact ⟨rfl,l,r,rfl,by omega,j4,fun i a b=>j5 i (by omega) b⟩
  case istep=>
   rintro x c st2 _ hx ⟨rfl,l,r,rfl,j1,j2,j3,j4,j5⟩
   dsimp only
   by_cases ge:l>=r
   ·rw [if_pos ge]
    exact wpS_pure ⟨rfl,l,r,rfl,by omega,j4,fun i a b=>j5 i (by omega) b⟩
   rw [if_neg ge]
   refine wpS_bind (wp_at h0 hk i1 (by omega) (by omega) ?_)
   dsimp only
   by_cases ls:K (arrOf st2) (lo+k)<K (arrOf st2) (lo+(l+r) / 2)
   ·rw [if_pos (by simpa using ls)]
    refine wpS_pure ⟨rfl,l,(l+r) / 2,rfl,by omega,by omega,by omega,j4,fun i a b=>?_⟩
    have:=i2 ((l+r) / 2) i a b
    omega
   ·rw [if_neg (by simpa using ls)]
    refine wpS_pure ⟨rfl,(l+r) / 2+1,r,rfl,by omega,by omega,by omega,fun i a=>?_,j5⟩
    have:=i2 i ((l+r) / 2) (by omega) (by omega)
    omega
  case ipost=>
   rintro c st2 ⟨rfl,l,r,rfl,j1,j2,j3⟩
   dsimp only
   refine wpS_bind (wpS_modify (wpS_pure ⟨rfl,i1.bubble (by omega) (by omega),?_⟩))
   rw [show min (k+1) n=k+1 by omega]
   intro i j hij hj
   show K (PyProof.Rows.bubble (arrOf st2) (lo+k) (lo+k - (lo+l))) (lo+i)<=K (PyProof.Rows.bubble (arrOf st2) (lo+k) (lo+k - (lo+l))) (lo+j)
   rw [K_bubble (by omega) (by omega),K_bubble (by omega) (by omega),show lo+k - (lo+k - (lo+l))=lo+l by omega]
   by_cases a1:i=l
   ·rw [if_pos (by omega)]
    by_cases a2:j=l
    ·rw [if_pos (by omega)];exact Int.le_refl _
    ·rw [if_neg (by omega),if_pos (by omega),show lo+j - 1=lo+(j - 1) by omega]
     have:=j3 (j - 1) (by omega) (by omega)
     omega
   ·rw [if_neg (by omega)]
    by_cases a2:l<i
    ·rw [if_pos (by omega),if_neg (by omega),if_pos (by omega),show lo+i - 1=lo+(i - 1) by omega,show lo+j - 1=lo+(j - 1) by omega]
     exact i2 (i - 1) (j - 1) (by omega) (by omega)
    ·rw [if_neg (by omega)]
     by_cases a3:j=l
     ·rw [if_pos (by omega)];exact j2 i (by omega)
     ·rw [if_neg (by omega)]
      by_cases a4:l<j
      ·rw [if_pos (by omega),show lo+j - 1=lo+(j - 1) by omega]
       exact i2 i (j - 1) (by omega) (by omega)
      ·rw [if_neg (by omega)]
       exact i2 i j hij (by omega)
end
end SR
namespace SR
theorem get_seg {arr:Array Keyed} {L A R:List Keyed} (e:arr.toList=L++(A++R)) {i:Nat} (hi:i<A.length):arr[L.length+i]? = A[i]?:=by
 rw [<-Array.getElem?_toList,e,List.getElem?_append_right (by omega),Nat.add_sub_cancel_left,List.getElem?_append_left hi]
theorem up_of {arr:Array Keyed} {L A R:List Keyed} {lo n:Nat} (e:arr.toList=L++(A++R)) (hl:L.length=lo) (hn:A.length=n) (hs:Srt kv A) (hi:∀x∈A,IK x):Up arr lo n:=by
 subst hl;subst hn
 constructor
 ·intro i h
  refine ⟨A[i],?_,hi _ (List.getElem_mem h)⟩
  rw [get_seg e h,List.getElem?_eq_getElem h]
 ·intro i j p q hij hj e1 e2
  rw [get_seg e (by omega),List.getElem?_eq_getElem (by omega)] at e1
  rw [get_seg e hj,List.getElem?_eq_getElem hj] at e2
  cases e1;cases e2
  by_cases z:i=j
  ·subst z;exact Int.le_refl _
  ·exact List.pairwise_iff_getElem.mp hs i j (by omega) hj (by omega)
theorem cut_of {left:Bool} {key:Keyed} {arr:Array Keyed} {L A R:List Keyed} {lo n k:Nat} (c:Cut left key arr lo n k) (e:arr.toList=L++(A++R)) (hl:L.length=lo) (hn:A.length=n):(∀x∈A.take k,bey left key x=true)/\(∀x∈A.drop k,bey left key x=false):=by
 subst hl;subst hn
 refine ⟨fun x hx=>?_,fun x hx=>?_⟩
 ·obtain ⟨i,hi,ex⟩:=List.getElem_of_mem hx
  rw [List.length_take] at hi
  rw [List.getElem_take] at ex
  exact c.2.1 i x (by omega) (by rw [get_seg e (by omega),List.getElem?_eq_getElem (by omega),ex])
 ·obtain ⟨i,hi,ex⟩:=List.getElem_of_mem hx
  rw [List.length_drop] at hi
  rw [List.getElem_drop] at ex
  exact c.2.2 (k+i) x (by omega) (by omega) (by rw [get_seg e (by omega),List.getElem?_eq_getElem (by omega),ex])
theorem wr_list {sa:Nat} {F:Array Keyed->Keyed × Nat->Array Keyed} (hF:∀a p j,F a (p,j)=a.setIfInBounds (sa+j) p):∀(l:List Keyed) (n:Nat) (arr:Array Keyed) (L X R:List Keyed),arr.toList=L++(X++R)->L.length=sa+n->X.length=l.length->((l.zipIdx n).foldl F arr).toList=L++(l++R)
 | [],n,arr,L,X,R,e,hl,hx=>by
  have x0:X=[]:=List.length_eq_zero_iff.mp (by simpa using hx)
  rw [x0] at e
  simpa using e
 | p::l,n,arr,L,[],R,e,hl,hx=>by simp at hx
 | p::l,n,arr,L,x::X,R,e,hl,hx=>by
  rw [List.zipIdx_cons,List.foldl_cons,hF]
  have:=wr_list hF l (n+1) (arr.setIfInBounds (sa+n) p) (L++[p]) X R (by
   rw [Array.toList_setIfInBounds,e,<-hl,List.set_append_right _ _ (Nat.le_refl _),Nat.sub_self]
   simp) (by simp;omega) (by simpa using hx)
  rw [this]
  simp
theorem srt_app {X Y:List Keyed} (h1:Srt kv X) (h2:Srt kv Y) (h:∀x∈X,∀y∈Y,kv x<=kv y):Srt kv (X++Y):=List.pairwise_append.mpr ⟨h1,h2,h⟩
section
variable {prog:Program} {w:World} {A:Around} {E:Value->Shared->Prop} {s:Shared}
theorem wp_set {σ:Type} {M:Model} {x:σ} {Q:PUnit->σ->Prop} {st:σ} (h:Q ⟨⟩ x):wpS M A E s (set x:StateT σ Sem PUnit) Q st:=wpS_modify (f:=fun _=>x) h
theorem wp_state {α:Type} {P:StateT SortSt Sem α} {Q:α->SortSt->Prop} {C:SortSt->Prop} {st:SortSt} (c:C st) (H:∀st1,C st1->wpS (model prog w) A E s P Q st1):wpS (model prog w) A E s P Q st:=H st c
theorem wp_mat {st:SortSt} {Q:Bool->SortSt->Prop} {px py:List (Nat × Nat × Nat)} {pw pw2:Nat} {L A1 B1 R:List Keyed} (hk:kindOf st=oneType') (hf:failedOf st=none)
  (hp:(pendingOf st).toList=px++(L.length,A1.length,pw)::(L.length+A1.length,B1.length,pw2)::py) (ha:(arrOf st).toList=L++(A1++(B1++R)))
  (a0:0<A1.length) (b0:0<B1.length) (sa:Srt kv A1) (sb:Srt kv B1) (ia:∀x∈A1,IK x) (ib:∀x∈B1,IK x)
  (h:∀M st',M.Perm (A1++B1)->Srt kv M->(arrOf st').toList=L++(M++R)->(pendingOf st').toList=px++(L.length,A1.length+B1.length,pw)::py->kindOf st'=oneType'->failedOf st'=none->Q true st') :
  wpS (model prog w) A E s (mat px.length) Q st:=by
 have e1:(pendingOf st)[px.length]? = some (L.length,A1.length,pw):=by rw [<-Array.getElem?_toList,hp];simp
 have e2:(pendingOf st)[px.length+1]? = some (L.length+A1.length,B1.length,pw2):=by rw [<-Array.getElem?_toList,hp,List.getElem?_append_right (by omega),Nat.add_sub_cancel_left];rfl
 have ha':(arrOf st).toList=(L++A1)++(B1++R):=by rw [ha];simp
 have ub:Up (arrOf st) (L.length+A1.length) B1.length:=up_of ha' (by simp) rfl sb ib
 have ua:Up (arrOf st) L.length A1.length:=up_of ha rfl rfl sa ia
 obtain ⟨p0,ep,ip⟩:=ub.at_ 0 b0
 rw [Nat.add_zero] at ep
 have p0h:B1[0]? = some p0:=by
  have:=get_seg ha' b0
  rw [List.length_append,Nat.add_zero,ep] at this
  exact this.symm
 have p0m:∀y∈B1,kv p0<=kv y:=fun y hy=>by
  obtain ⟨i,hi,e⟩:=List.getElem_of_mem hy
  exact ub.le 0 i p0 y (Nat.zero_le _) hi (by rw [Nat.add_zero];exact ep) (by rw [<-List.length_append,get_seg ha' hi,List.getElem?_eq_getElem hi,e])
 refine wpS_bind (wpS_get ?_)
 rw [e1,e2]
 refine wpS_bind (wp_set ?_)
 refine wpS_bind (wp_elem ep (wpS_bind (wp_gal hk ip ua a0 fun k hc=>?_)))
 dsimp only
 have pen:∀p:Array (Nat × Nat × Nat),p.toList=px++(L.length,A1.length,pw)::(L.length+A1.length,B1.length,pw2)::py->((p.setIfInBounds px.length (L.length,A1.length+B1.length,pw)).eraseIdxIfInBounds (px.length+1)).toList=px++(L.length,A1.length+B1.length,pw)::py:=fun p hp=>by
  have hz:px.length+1<(p.setIfInBounds px.length (L.length,A1.length+B1.length,pw)).size:=by
   rw [Array.size_setIfInBounds,<-Array.length_toList,hp];simp
  unfold Array.eraseIdxIfInBounds
  rw [dif_pos hz,Array.toList_eraseIdx,Array.toList_setIfInBounds,hp,List.set_append_right _ _ (Nat.le_refl _),Nat.sub_self,List.eraseIdx_append_of_length_le (by omega),Nat.add_sub_cancel_left]
  rfl
 refine wp_state (C:=fun st1=>arrOf st1=arrOf st/\kindOf st1=oneType'/\failedOf st1=none/\(pendingOf st1).toList=px++(L.length,A1.length+B1.length,pw)::py) ⟨rfl,hk,hf,pen _ hp⟩ ?_
 rintro st1 ⟨s1a,s1k,s1f,s1p⟩
 obtain ⟨c1,c2⟩:=cut_of hc ha rfl rfl
 have d1:∀x∈A1.take k,kv x<=kv p0:=fun x hx=>by
  have:=c1 x hx;unfold bey at this;simp at this;omega
 have d2:∀x∈A1.drop k,kv p0<kv x:=fun x hx=>by
  have:=c2 x hx;unfold bey at this;simp at this;omega
 have hk1:=hc.1
 by_cases z1:A1.length - k=0
 ·rw [if_pos (by simpa using z1)]
  refine wpS_pure (h (A1++B1) st1 (List.Perm.refl _) (srt_app sa sb fun x hx y hy=>?_) (by rw [s1a,ha];simp) s1p s1k s1f)
  have:=d1 x (by rw [List.take_of_length_le (by omega)];exact hx)
  have:=p0m y hy
  omega
 rw [if_neg (by simpa using z1)]
 obtain ⟨aL,el,il⟩:=ua.at_ (A1.length - 1) (by omega)
 have elA:A1[A1.length - 1]? = some aL:=by rw [<-get_seg ha (by omega)];exact el
 have aLm:∀x∈A1,kv x<=kv aL:=fun x hx=>by
  obtain ⟨i,hi,e⟩:=List.getElem_of_mem hx
  exact ua.le i (A1.length - 1) x aL (by omega) (by omega) (by rw [get_seg ha hi,List.getElem?_eq_getElem hi,e]) el
 refine wpS_bind (wp_elem (p:=aL) (by rw [show L.length+k+(A1.length - k) - 1=L.length+(A1.length - 1) by omega];exact el) (wpS_bind (wp_gal s1k il ub (by omega) fun k' hc'=>?_)))
 dsimp only
 obtain ⟨c3,c4⟩:=cut_of hc' ha' (by simp) rfl
 have d3:∀x∈B1.take k',kv x<kv aL:=fun x hx=>by
  have:=c3 x hx;unfold bey at this;simp at this;omega
 have d4:∀x∈B1.drop k',kv aL<=kv x:=fun x hx=>by
  have:=c4 x hx;unfold bey at this;simp at this;omega
 have hk2:=hc'.1
 by_cases z2:k'=0
 ·rw [if_pos (by simpa using z2)]
  refine wpS_pure (h (A1++B1) st1 (List.Perm.refl _) (srt_app sa sb fun x hx y hy=>?_) (by rw [s1a,ha];simp) s1p s1k s1f)
  have:=aLm x hx
  have:=d4 y (by rw [z2,List.drop_zero];exact hy)
  omega
 rw [if_neg (by simpa using z2)]
 have ex:((arrOf st).extract (L.length+k) (L.length+A1.length)).toList=A1.drop k:=by
  rw [ext_toList,ha,<-List.drop_drop,List.drop_left,List.drop_append_of_le_length hk1,List.take_append_of_le_length (by rw [List.length_drop];omega),List.take_of_length_le (by rw [List.length_drop];omega)]
 have ey:((arrOf st).extract (L.length+A1.length) (L.length+A1.length+k')).toList=B1.take k':=by
  rw [ext_toList,ha',<-List.length_append,List.drop_left,Nat.add_sub_cancel_left,List.take_append_of_le_length hk2]
 obtain ⟨zx,zy,ux,uy,g0,g1,fin⟩:((arrOf st).extract (L.length+k) (L.length+A1.length)).size=A1.length - k/\((arrOf st).extract (L.length+A1.length) (L.length+A1.length+k')).size=k'/\Up ((arrOf st).extract (L.length+k) (L.length+A1.length)) 0 ((arrOf st).extract (L.length+k) (L.length+A1.length)).size/\Up ((arrOf st).extract (L.length+A1.length) (L.length+A1.length+k')) 0 ((arrOf st).extract (L.length+A1.length) (L.length+A1.length+k')).size/\(∀p q,((arrOf st).extract (L.length+A1.length) (L.length+A1.length+k'))[0]? = some p->q∈((arrOf st).extract (L.length+k) (L.length+A1.length)).toList->kv p<=kv q)/\(∀p∈((arrOf st).extract (L.length+A1.length) (L.length+A1.length+k')).toList,∀q,((arrOf st).extract (L.length+k) (L.length+A1.length))[((arrOf st).extract (L.length+k) (L.length+A1.length)).size - 1]? = some q->kv p<=kv q)/\(∀out st',SR.Fin st1 ((arrOf st).extract (L.length+k) (L.length+A1.length)) ((arrOf st).extract (L.length+A1.length) (L.length+A1.length+k')) out st'->∀F:Array Keyed->Keyed × Nat->Array Keyed,(∀a p j,F a (p,j)=a.setIfInBounds (L.length+k+j) p)->∀st2:SortSt,arrOf st2=out.toList.zipIdx.foldl F (arrOf st')->pendingOf st2=pendingOf st'->kindOf st2=kindOf st'->failedOf st2=failedOf st'->Q true st2):=by
  generalize (arrOf st).extract (L.length+k) (L.length+A1.length)=x at ex ⊢
  generalize (arrOf st).extract (L.length+A1.length) (L.length+A1.length+k')=y at ey ⊢
  have zx:x.size=A1.length - k:=by rw [<-Array.length_toList,ex,List.length_drop]
  have zy:y.size=k':=by rw [<-Array.length_toList,ey,List.length_take];omega
  have ux:Up x 0 x.size:=up_of (L:=[]) (A:=A1.drop k) (R:=[]) (by simp [ex]) rfl (by rw [List.length_drop,zx]) (sa.sublist (List.drop_sublist _ _)) fun x hx=>ia x (List.mem_of_mem_drop hx)
  have uy:Up y 0 y.size:=up_of (L:=[]) (A:=B1.take k') (R:=[]) (by simp [ey]) rfl (by rw [List.length_take,zy];omega) (sb.sublist (List.take_sublist _ _)) fun x hx=>ib x (List.mem_of_mem_take hx)
  have g0:∀p q,y[0]? = some p->q∈x.toList->kv p<=kv q:=fun p q ep' hq=>by
   rw [<-Array.getElem?_toList,ey,List.getElem?_take,if_pos (by omega),p0h] at ep'
   cases ep'
   rw [ex] at hq
   have:=d2 q hq
   omega
  have g1:∀p∈y.toList,∀q,x[x.size - 1]? = some q->kv p<=kv q:=fun p hp' q eq=>by
   rw [<-Array.getElem?_toList,ex,List.getElem?_drop,zx,show k+(A1.length - k - 1)=A1.length - 1 by omega,elA] at eq
   cases eq
   rw [ey] at hp'
   have:=d3 p hp'
   omega
  have fin:∀out st',SR.Fin st1 x y out st'->∀F:Array Keyed->Keyed × Nat->Array Keyed,(∀a p j,F a (p,j)=a.setIfInBounds (L.length+k+j) p)->∀st2:SortSt,arrOf st2=out.toList.zipIdx.foldl F (arrOf st')->pendingOf st2=pendingOf st'->kindOf st2=kindOf st'->failedOf st2=failedOf st'->Q true st2:=fun out st' F1 F hF st2 q1 q2 q3 q4=>by
   obtain ⟨S,f1,f2⟩:=F1
   rw [ex,ey] at f1
   refine h (A1.take k++(out.toList++B1.drop k')) st2 ?_ (srt_app (sa.sublist (List.take_sublist _ _)) (srt_app f2 (sb.sublist (List.drop_sublist _ _)) ?_) ?_) ?_ (by rw [q2,S.p];exact s1p) (by rw [q3,S.k];exact s1k) (by rw [q4,S.f];exact s1f)
   ·refine ((f1.append_right _).append_left _).trans ?_
    rw [List.append_assoc,List.take_append_drop,<-List.append_assoc,List.take_append_drop]
   ·intro u hu v hv
    have h4:=d4 v hv
    rcases List.mem_append.mp (f1.mem_iff.mp hu) with m|m
    ·have:=aLm u (List.mem_of_mem_drop m);omega
    ·have:=d3 u m;omega
   ·intro u hu v hv
    have h5:=d1 u hu
    rcases List.mem_append.mp hv with m|m
    ·rcases List.mem_append.mp (f1.mem_iff.mp m) with m|m
     ·have:=d2 v m;omega
     ·have:=p0m v (List.mem_of_mem_take m);omega
    ·have:=p0m v (List.mem_of_mem_drop m);omega
   ·rw [q1,S.a,s1a,wr_list hF out.toList 0 (arrOf st) (L++A1.take k) (A1.drop k++B1.take k') (B1.drop k'++R) ?_ ?_ ?_]
    ·simp
    ·rw [ha]
     have t1:=List.take_append_drop k A1
     have t2:=List.take_append_drop k' B1
     have t3:A1++(B1++R)=(A1.take k++A1.drop k)++((B1.take k'++B1.drop k')++R):=by rw [t1,t2]
     rw [t3]
     simp only [List.append_assoc]
    ·rw [List.length_append,List.length_take];omega
    ·rw [f1.length_eq]
  exact ⟨zx,zy,ux,uy,g0,g1,fin⟩
 have wx:0<((arrOf st).extract (L.length+k) (L.length+A1.length)).size:=by rw [zx];omega
 have wy:0<((arrOf st).extract (L.length+A1.length) (L.length+A1.length+k')).size:=by rw [zy];omega
 by_cases z3:A1.length - k<=k'
 ·rw [if_pos z3]
  refine wpS_bind (wp_mlo s1k ux uy wx wy (fun p q e1 e2=>g0 p q e1 (by rw [<-Array.getElem?_toList] at e2;exact List.mem_of_getElem? e2)) g1 fun out st' F1=>?_)
  refine wpS_bind (wpS_modify (wpS_bind (wpS_get (wpS_pure ?_))))
  have ff:(failedOf st').isNone=true:=by rw [F1.1.f.trans s1f];rfl
  show Q (failedOf st').isNone _
  rw [ff]
  exact fin out st' F1 _ (fun a p j=>rfl) _ rfl rfl rfl rfl
 ·rw [if_neg z3]
  refine wpS_bind (wp_mhi s1k ux uy wx wy g0 g1 fun out st' F1=>?_)
  refine wpS_bind (wpS_modify (wpS_bind (wpS_get (wpS_pure ?_))))
  have ff:(failedOf st').isNone=true:=by rw [F1.1.f.trans s1f];rfl
  show Q (failedOf st').isNone _
  rw [ff]
  exact fin out st' F1 _ (fun a p j=>rfl) _ rfl rfl rfl rfl
end
end SR
namespace SR
def Pd:Nat->List (Nat × Nat × Nat)->List (List Keyed)->Prop
 | _,[],[]=>True
 | s,p::ps,g::gs=>p.1=s/\p.2.1=g.length/\0<g.length/\Srt kv g/\Pd (s+g.length) ps gs
 | _,_,_=>False
theorem Pd.app:∀{s:Nat} {ps qs:List (Nat × Nat × Nat)} {g1 g2:List (List Keyed)},Pd s ps g1->Pd (s+g1.flatten.length) qs g2->Pd s (ps++qs) (g1++g2)
 | s,[],qs,[],g2,_,h=>h
 | s,p::ps,qs,g::g1,g2,⟨a,b,c,d,e⟩,h=>⟨a,b,c,d,Pd.app e (by rw [List.flatten_cons,List.length_append] at h;rw [Nat.add_assoc];exact h)⟩
 | s,[],qs,g::g1,g2,h,_=>h.elim
 | s,p::ps,qs,[],g2,h,_=>h.elim
theorem Pd.split:∀{s:Nat} {ps qs:List (Nat × Nat × Nat)} {gs:List (List Keyed)},Pd s (ps++qs) gs->∃g1 g2,gs=g1++g2/\Pd s ps g1/\Pd (s+g1.flatten.length) qs g2
 | s,[],qs,gs,h=>⟨[],gs,rfl,trivial,h⟩
 | s,p::ps,qs,[],h=>h.elim
 | s,p::ps,qs,g::gs,⟨a,b,c,d,e⟩=>by
  obtain ⟨g1,g2,rfl,h1,h2⟩:=Pd.split e
  refine ⟨g::g1,g2,rfl,⟨a,b,c,d,h1⟩,?_⟩
  rw [List.flatten_cons,List.length_append,<-Nat.add_assoc]
  exact h2
theorem Pd.len:∀{s:Nat} {ps:List (Nat × Nat × Nat)} {gs:List (List Keyed)},Pd s ps gs->ps.length=gs.length/\ps.length<=gs.flatten.length
 | s,[],[],_=>by simp
 | s,p::ps,g::gs,⟨a,b,c,d,e⟩=>by
  have:=e.len
  rw [List.flatten_cons,List.length_append,List.length_cons,List.length_cons]
  omega
 | s,[],g::gs,h=>h.elim
 | s,p::ps,[],h=>h.elim
theorem Pd.like:∀{s:Nat} {ps qs:List (Nat × Nat × Nat)} {gs:List (List Keyed)},Pd s ps gs->qs.map (fun p=>(p.1,p.2.1))=ps.map (fun p=>(p.1,p.2.1))->Pd s qs gs
 | s,[],[],[],h,_=>h
 | s,[],q::qs,gs,_,h=>by simp at h
 | s,p::ps,[],gs,_,h=>by simp at h
 | s,p::ps,q::qs,g::gs,⟨a,b,c,d,e⟩,h=>by
  rw [List.map_cons,List.map_cons,List.cons.injEq,Prod.mk.injEq] at h
  exact ⟨h.1.1.trans a,h.1.2.trans b,c,d,Pd.like e h.2⟩
 | s,p::ps,q::qs,[],h,_=>h.elim
 | s,[],[],g::gs,h,_=>h.elim
structure Rn (a0:Array Keyed) (lo:Nat) (ps:List (Nat × Nat × Nat)) (gs:List (List Keyed)) (R:List Keyed) (st:SortSt):Prop where
 perm:(arrOf st).Perm a0
 kind:kindOf st=oneType'
 fail:failedOf st=none
 pend:(pendingOf st).toList=ps
 pd:Pd 0 ps gs
 len:gs.flatten.length=lo
 arr:(arrOf st).toList=gs.flatten++R
theorem ik_of {a0:Array Keyed} (h0:IntKeys a0) {a:Array Keyed} (h:a.Perm a0):IntKeys a:=fun p hp=>h0 p ((Array.perm_iff_toList_perm.mp h).mem_iff.mp hp)
section
variable {prog:Program} {w:World} {A:Around} {E:Value->Shared->Prop} {s:Shared} {a0:Array Keyed} {lo:Nat}
theorem wp_matR {st:SortSt} {Q:Bool->SortSt->Prop} {ps:List (Nat × Nat × Nat)} {gs:List (List Keyed)} {i:Nat} (h0:IntKeys a0) {R:List Keyed} (hR:Rn a0 lo ps gs R st) (hi:i+1<ps.length)
  (h:∀ps' gs' st',Rn a0 lo ps' gs' R st'->ps'.length+1=ps.length->Q true st'):wpS (model prog w) A E s (mat i) Q st:=by
 obtain ⟨px,rest,rfl,hx⟩:∃px rest,ps=px++rest/\px.length=i:=⟨ps.take i,ps.drop i,(List.take_append_drop i ps).symm,by rw [List.length_take];omega⟩
 subst hx
 match rest,hi,hR with
 | [],hi,_=>exact absurd hi (by simp)
 | [_],hi,_=>exact absurd hi (by simp)
 | u::v::py,hi,hR=>
  obtain ⟨g1,g2,rfl,p1,p2⟩:=hR.pd.split
  match g2,p2,hR with
  | [],p2,_=>exact p2.elim
  | [_],p2,_=>exact p2.2.2.2.2.elim
  | A1::B1::g3,⟨a1,a2,a3,a4,b1,b2,b3,b4,p3⟩,hR=>
   have ha:=hR.arr
   obtain ⟨u1,u2,pw⟩:=u
   obtain ⟨v1,v2,pw2⟩:=v
   dsimp only at a1 a2 b1 b2
   rw [Nat.zero_add] at a1 b1 p3
   subst a1;subst a2;subst b1;subst b2
   have ha':(arrOf st).toList=g1.flatten++(A1++(B1++(g3.flatten++R))):=by rw [ha];simp
   have ik:∀x∈(arrOf st).toList,IK x:=ik_of h0 hR.perm
   refine wp_mat hR.kind hR.fail hR.pend ha' a3 b3 a4 b4 (fun x hx=>ik x (by rw [ha'];simp [hx])) (fun x hx=>ik x (by rw [ha'];simp [hx])) fun M st' m1 m2 m3 m4 m5 m6=>?_
   refine h _ (g1++M::g3) st' ⟨?_,m5,m6,m4,?_,?_,by rw [m3];simp⟩ (by simp;omega)
   ·refine (Array.perm_iff_toList_perm.mpr ?_).trans hR.perm
    rw [m3,ha']
    have:=(m1.append_right (g3.flatten++R)).append_left g1.flatten
    simpa using this
   ·refine p1.app ⟨by simp,by rw [m1.length_eq,List.length_append],by rw [m1.length_eq,List.length_append];omega,m2,?_⟩
    rw [Nat.zero_add,m1.length_eq,List.length_append,<-Nat.add_assoc]
    exact p3
   ·have:=hR.len
    have e:=m1.length_eq
    simp at this e ⊢
    omega
theorem Rn.push {st:SortSt} {ps:List (Nat × Nat × Nat)} {gs:List (List Keyed)} {G R:List Keyed} (hR:Rn a0 lo ps gs (G++R) st) (h1:0<G.length) (h2:Srt kv G) (p:Nat):Rn a0 (lo+G.length) (ps++[(lo,G.length,p)]) (gs++[G]) R (setPending st ((pendingOf st).push (lo,G.length,p))):=by
 refine ⟨hR.perm,hR.kind,hR.fail,?_,hR.pd.app ⟨?_,rfl,h1,h2,trivial⟩,?_,?_⟩
 ·show ((pendingOf st).push _).toList=_
  rw [Array.toList_push,hR.pend]
 ·rw [Nat.zero_add];exact hR.len.symm
 ·have:=hR.len
  simp at this ⊢
  omega
 ·show (arrOf st).toList=_
  rw [hR.arr];simp
theorem map_mod (f:Nat × Nat × Nat->Nat × Nat × Nat) (hf:∀p,((f p).1,(f p).2.1)=(p.1,p.2.1)):∀(l:List (Nat × Nat × Nat)) (k:Nat),(l.modify k f).map (fun p=>(p.1,p.2.1))=l.map (fun p=>(p.1,p.2.1))
 | [],k=>by simp
 | p::l,0=>by simp [List.modify_zero_cons];exact Prod.mk.inj (hf p)
 | p::l,k+1=>by rw [List.modify_succ_cons,List.map_cons,List.map_cons,map_mod f hf l k]
theorem Rn.mod {st:SortSt} {ps:List (Nat × Nat × Nat)} {gs:List (List Keyed)} {R:List Keyed} (hR:Rn a0 lo ps gs R st) (k:Nat) (f:Nat × Nat × Nat->Nat × Nat × Nat) (hf:∀p,((f p).1,(f p).2.1)=(p.1,p.2.1)):Rn a0 lo (ps.modify k f) gs R (setPending st ((pendingOf st).modify k f)):=by
 refine ⟨hR.perm,hR.kind,hR.fail,?_,hR.pd.like (map_mod f hf ps k),hR.len,hR.arr⟩
 show ((pendingOf st).modify k f).toList=_
 rw [Array.toList_modify,hR.pend]
theorem Rn.found {st st3:SortSt} {ps:List (Nat × Nat × Nat)} {gs:List (List Keyed)} {R:List Keyed} {n:Nat} (hR:Rn a0 lo ps gs R st) (hB:Bs st lo st3) (hn:lo+n<=(arrOf st).size) (hs:SoF (arrOf st3) lo n):∃G R',Rn a0 lo ps gs (G++R') st3/\G.length=n/\Srt kv G:=by
 have z:=hB.size
 have lz:lo<=(arrOf st3).toList.length:=by rw [Array.length_toList];omega
 refine ⟨((arrOf st3).toList.drop lo).take n,((arrOf st3).toList.drop lo).drop n,⟨hB.perm.trans hR.perm,hB.kind.trans hR.kind,hB.fail.trans hR.fail,by rw [hB.pend];exact hR.pend,hR.pd,hR.len,?_⟩,?_,?_⟩
 ·rw [List.take_append_drop]
  have e:(arrOf st3).toList.take lo=gs.flatten:=by
   have e1:(arrOf st).toList.take lo=gs.flatten:=by rw [hR.arr,List.take_append_of_le_length (by rw [hR.len];exact Nat.le_refl _),List.take_of_length_le (by rw [hR.len];exact Nat.le_refl _)]
   rw [<-e1]
   refine List.ext_getElem? fun i=>?_
   rw [List.getElem?_take,List.getElem?_take]
   split
   ·rw [Array.getElem?_toList,Array.getElem?_toList];exact hB.low i (by assumption)
   ·rfl
  rw [<-e,List.take_append_drop]
 ·rw [List.length_take,List.length_drop,Array.length_toList];omega
 ·refine List.pairwise_iff_getElem.mpr fun i j hi hj hij=>?_
  rw [List.length_take,List.length_drop,Array.length_toList] at hi hj
  have:=hs i j (by omega) (by omega)
  unfold K at this
  rw [Array.getElem?_eq_getElem (by omega),Array.getElem?_eq_getElem (by omega)] at this
  simp only [List.getElem_take,List.getElem_drop,Array.getElem_toList]
  exact this
theorem itl (c:Prop) [Decidable c] (n:Nat) (h:2<=n):(if c then n - 2 - 1 else n - 2)+1<n:=by split<;>omega
theorem wp_runs {st:SortSt} {Q:Unit->SortSt->Prop} (h0:IntKeys a0) (hB:SBase a0 st)
  (h:∀st',(arrOf st').Perm a0->failedOf st'=none->Srt kv (arrOf st').toList->Q () st'):wpS (model prog w) A E s sortRuns' Q st:=by
 refine wpS_bind (wpS_get ?_)
 dsimp only
 have z0:(arrOf st).size=a0.size:=hB.perm.size_eq
 generalize hN:(arrOf st).size=N at z0 ⊢
 generalize hM:(sortPriv% PySem.Builtin.minRun) N N 0=mr
 refine wpS_bind (wpS_mono (wpS_forRange (I:=fun x c st'=>∃lo ps gs R,c=(none,lo)/\x<=lo/\lo<=N/\Rn a0 lo ps gs R st')
  (Q:=fun c st'=>∃lo ps gs R,c=(none,lo)/\lo=N/\Rn a0 lo ps gs R st') ?step ?fin ⟨0,[],[],(arrOf st).toList,rfl,Nat.le_refl _,Nat.zero_le _,hB.perm,hB.kind,hB.failed,by rw [hB.pend],trivial,rfl,rfl⟩) ?post)
 case fin=>
  rintro c st' ⟨lo,ps,gs,R,rfl,i1,i2,i3⟩
  exact ⟨lo,ps,gs,R,rfl,by rw [Nat.max_eq_right (Nat.zero_le _)] at i1;exact Nat.le_antisymm i2 i1,i3⟩
 case step=>
  rintro x c st' _ hx ⟨lo,ps,gs,R,rfl,i1,i2,i3⟩
  dsimp only
  have z1:(arrOf st').size=N:=by rw [z0];exact i3.perm.size_eq
  by_cases ge:lo>=N
  ·rw [if_pos ge]
   exact wpS_pure ⟨lo,ps,gs,R,rfl,Nat.le_antisymm i2 ge,i3⟩
  rw [if_neg ge]
  have lt:lo<N:=Nat.lt_of_not_le ge
  refine wpS_bind (wp_count (ik_of h0 i3.perm) i3.kind (by rw [z1];omega) (by omega) fun n st2 j1 j2 j3 j4=>?_)
  dsimp only
  by_cases less:n<mr
  rw [if_pos less]
  refine wpS_bind (wpS_lift (wpAny_rule ⟨rfl,?_⟩))
  refine wpS_bind (wp_binary (ik_of h0 i3.perm) i3.kind (by rw [z1];omega) (Nat.le_min.mpr ⟨j3,Nat.le_of_lt less⟩) j1 j4 fun st3 k1 k2=>?_)
  rw [if_neg (by decide)]
  obtain ⟨G,R',r1,r2,r3⟩:=i3.found k1 (by rw [z1];omega) k2
  rw [<-r2]
  have r4:0<G.length:=by rw [r2];exact Nat.lt_of_lt_of_le j2 (Nat.le_min.mpr ⟨j3,Nat.le_of_lt less⟩)
  have r5:lo+G.length<=N:=by rw [r2];omega
  rotate_left
  rw [if_neg less]
  obtain ⟨G,R',r1,r2,r3⟩:=i3.found j1 (by rw [z1];omega) j4
  rw [<-r2]
  have r4:0<G.length:=by rw [r2];omega
  have r5:lo+G.length<=N:=by rw [r2];omega
  all_goals
   refine wpS_bind (wpS_get ?_)
   split
   ·refine wpS_bind (wpS_mono (wpS_forRange (I:=fun _ c st'=>∃ps gs,c=(none,())/\Rn a0 lo ps gs (G++R') st') (Q:=fun c st'=>∃ps gs,c=(none,())/\Rn a0 lo ps gs (G++R') st') ?istep (fun _ _ q=>q) ⟨ps,gs,rfl,r1⟩) ?ipost)
    case istep=>
     rintro y c st4 _ hy ⟨ps,gs,rfl,q1⟩
     have lp:ps.length=(pendingOf st4).size:=by rw [<-q1.pend,Array.length_toList]
     refine wpS_bind (wpS_get ?_)
     by_cases m1:(pendingOf st4).size > 1
     ·rw [if_pos m1]
      obtain ⟨u,eu⟩:∃u,(pendingOf st4)[(pendingOf st4).size - 2]? = some u:=⟨_,Array.getElem?_eq_getElem (by omega)⟩
      rw [eu]
      dsimp only
      split
      ·exact wpS_pure ⟨ps,gs,rfl,q1⟩
      ·refine wpS_bind (wp_matR h0 q1 (by rw [lp];show (pendingOf st4).size - 2+1<(pendingOf st4).size;omega) fun ps' gs' st5 q2 _=>?_)
       rw [if_neg (by decide)]
       exact wpS_pure ⟨ps',gs',rfl,q2⟩
     ·rw [if_neg m1]
      exact wpS_pure ⟨ps,gs,rfl,q1⟩
    case ipost=>
     rintro c st4 ⟨ps,gs,rfl,q1⟩
     dsimp only
     refine wpS_bind (wpS_modify (wpS_bind (wpS_modify (wpS_pure ⟨_,_,_,_,rfl,by omega,r5,((q1.mod _ _ fun p=>?_).push r4 r3 0)⟩))))
     rfl
   ·exact wpS_bind (wpS_modify (wpS_pure ⟨_,_,_,_,rfl,by omega,r5,r1.push r4 r3 0⟩))
 case post=>
  rintro c st' ⟨lo,ps,gs,R,rfl,elo,i3⟩
  rw [elo] at i3
  dsimp only
  have z1:(arrOf st').size=N:=by rw [z0];exact i3.perm.size_eq
  refine wpS_bind (wpS_mono (wpS_forRange (I:=fun x c st'=>∃ps gs,c=(none,())/\Rn a0 N ps gs R st'/\ps.length+x<=N+1) (Q:=fun c st'=>∃ps gs,c=(none,())/\Rn a0 N ps gs R st'/\ps.length<=1) ?fstep ?ffin ⟨ps,gs,rfl,i3,by have:=i3.pd.len;have:=i3.len;omega⟩) ?fpost)
  case ffin=>
   rintro c st4 ⟨ps,gs,rfl,q1,q2⟩
   rw [Nat.max_eq_right (Nat.zero_le _)] at q2
   exact ⟨ps,gs,rfl,q1,by omega⟩
  case fstep=>
   rintro y c st4 _ hy ⟨ps,gs,rfl,q1,q2⟩
   have lp:ps.length=(pendingOf st4).size:=by rw [<-q1.pend,Array.length_toList]
   refine wpS_bind (wpS_get ?_)
   by_cases m1:(pendingOf st4).size<=1
   ·rw [if_pos m1]
    exact wpS_pure ⟨ps,gs,rfl,q1,by omega⟩
   rw [if_neg m1]
   refine wpS_bind (wp_matR h0 q1 ?_ fun ps' gs' st5 q3 q4=>?_)
   ·rw [lp];exact itl _ _ (Nat.lt_of_not_le m1)
   rw [if_neg (by decide)]
   exact wpS_pure ⟨ps',gs',rfl,q3,by omega⟩
  case fpost=>
   rintro c st4 ⟨ps,gs,rfl,q1,q2⟩
   refine wpS_pure (h st4 q1.perm q1.fail ?_)
   have e:=q1.arr
   have l1:=q1.len
   have l2:R.length=0:=by
    have:=congrArg List.length e
    rw [Array.length_toList,List.length_append,l1,q1.perm.size_eq,z0] at this
    omega
   rw [e,List.length_eq_zero_iff.mp l2,List.append_nil]
   match ps,gs,q2,q1.pd with
   | [],[],_,_=>exact .nil
   | [p],[g],_,pd=>rw [List.flatten_cons,List.flatten_nil,List.append_nil];exact pd.2.2.2.1
theorem runs_all {prog:Program} {w:World} {vs:List Value} {ns:List Int} (hI:IntsAre vs ns):Runs prog w vs:=fun A E s1 st hB ha h2=>by
 refine wp_runs hI.intKeys hB fun st' e1 e2 e3=>⟨e1,e2,fun i j hij hj=>?_⟩
 by_cases z:i=j
 ·rw [z];exact Int.le_refl _
 have hz:=e1.size_eq
 have:=List.pairwise_iff_getElem.mp e3 i j (by rw [Array.length_toList];omega) (by rw [Array.length_toList];omega) (by omega)
 unfold PyProof.Rows.K
 rw [Array.getElem?_eq_getElem (by omega),Array.getElem?_eq_getElem (by omega)]
 simpa [kv] using this
end
end SR
section
variable {X:Cx} {C:Pc} {a b c e o:Expr} {ta tb:TQ} {tas:TAQ} {pos ps apos:Pos} {K:PySem.W.Frag}
def rSortedA (K:PySem.W.Frag):List V->Hp->VK->Prop:=fun xs H Q=>∃(a:Addr) (ns:List Int),xs=[.ref a]/\SqL K H a (ns.map V.int)/\∀ns':List Int,ns'.Perm ns->ns'.Pairwise (·<=·)->∀l,H l=none->Q (.ref l) (upd H l (.lst (ns'.map V.int)))
theorem call_sortedA:CallR X (.builtin "sorted") (rSortedA X.K):=by
 intro pins s σ H xs us Q I r h
 obtain ⟨a,ns,rfl,hq,q⟩:=h
 obtain ⟨u,rfl,ru⟩:=vals1 r
 cases ru
 obtain ⟨its,rv,pl,hz⟩:=I.list hq
 have li:its.length=ns.length:=by rw [<-rv.length,List.length_map]
 rw [List.length_map] at hz
 refine sorted_call pl.isList (vals_intsAre rv) (by omega) (SR.runs_all (vals_intsAre rv)) fun out ns' a1 a2 a3=>?_
 obtain ⟨n,he⟩:=sortedAll_at s.heap its out
 have le:=a2.length_eq
 refine ⟨.ref _,_,I.laid (t':=s.toks) (fun b o=>sortedAll_old) (Nat.le_succ _) (show ObjOk X.prog X.w _ _ _ (.lst (ns'.map V.int)) from ⟨by rw [List.length_map];omega,out.toList,n,vals_ints a1,by rw [Array.toArray_toList];exact he⟩),rfl,q ns' a2 a3 _ (I.hok.fresh (Nat.le_succ _))⟩
theorem call_sortedAK (h:X.K=K):CallR X (.builtin "sorted") (rSortedA K):=by subst h;exact call_sortedA
def nSortedA (ta:TAQ):TN:=fun p Q=>ta p fun es p1=>∃(e:Ev) (ns:List Int),es=[e]/\lk p1 e=.lst (ns.map D.int)/\∀ns':List Int,ns'.Perm ns->ns'.Pairwise (·<=·)->Q (.ro (ns'.map D.int)) p1
theorem n_sortedA (hK:X.K=C.K) (hg:Gl X "sorted") (hm:X.mg "sorted"=none) (ha:PA X [e] (UpA C tas)) (he:starEach [e] X.env=(false,eval e X.env)::starEach [] X.env:=by rfl):PE X (.Call (.Name "sorted" ps) [e] [] pos) (UpN C (nSortedA tas)):=
 QN.mk (pe_callB (call_sortedAK hK) hg hm (by kernel_rfl) ha (he:=he)) fun p σ F H R rs ht=>upA1 rs ht fun es1 p1 vs1 F1 H1 rs1 s1 sh er1 ⟨e1,ns,h1,h2,q⟩=>by
  obtain ⟨v,rfl,er⟩:=evs1 er1 h1
  obtain ⟨a1,vs,rfl,g,r⟩:=ev_lst rs1 er h2
  rw [r.ints] at g
  exact ⟨a1,ns,rfl,.of g,fun ns' p1 p2 l hl=>fin_new rs1 s1 sh hl (RepL.of_ints ns') (q ns' p1 p2)⟩
theorem q_inS (ha:PE X a (Up C ta)) (hb:PE X b (Up C tb)) (hm:behindInMarks .In b=false:=by rfl):PE X (.Compare a [.In] [b] pos) (Up C (qInS (fun k=>k) ta tb)):=
 QE.mk (pe_cmpR op_in_str ha hb hm) fun p σ F H R rs ht=>up2 rs ht fun e1 e2 p1 v1 v2 F1 H1 rs1 s1 sh er1 er2 ⟨x,y,h1,h2,q⟩=>⟨x,y,ev_str er1 h1,ev_str er2 h2,fin_ev rs1 s1 sh (.bl _) q⟩
def rSlS:V->Option Int->Option Int->Hp->VK->Prop:=fun x lo hi H Q=>∃u:Str,x=.str u/\u.length<=sizeLine/\Q (.str (Txt.slice u lo hi)) H
theorem sl_str:SlR X rSlS:=by
 intro pins s σ H x v vl vu lo hi sl Q I rx hs pl pu h
 obtain ⟨u,rfl,hz,q⟩:=h
 obtain ⟨t,rfl⟩:=rx
 have go:∀(l r:Option (Int × Tok)),vl=partValue l->vu=partValue r->l.map (·.1)=lo->r.map (·.1)=hi->wpAny (model X.prog X.w) X.A (getItem (.str u t) (.ref sl)) (EP X pins σ Q) X.xe s:=fun l r e1 e2 e3 e4=>by
  subst e1;subst e2;subst e3;subst e4
  exact wpAny_getItem_str_slice (l:=l) (u:=r) (st:=none) hs rfl (post_val_or_str ⟨Nat.le_trans (Txt.slice_le u _ _) hz,fun t' k=>⟨.str _,H,I.tok k,⟨_,rfl⟩,q⟩⟩)
 refine ⟨"str",_,F.slot_str_getitem.lookup,typeIs_str _ _ _,?_⟩
 cases pl with
 | none=>cases pu with
  | none=>exact go none none rfl rfl rfl rfl
  | int j t2=>exact go none (some (j,t2)) rfl rfl rfl rfl
 | int i t1=>cases pu with
  | none=>exact go (some (i,t1)) none rfl rfl rfl rfl
  | int j t2=>exact go (some (i,t1)) (some (j,t2)) rfl rfl rfl rfl
def qSlS (ta:TQ) (tl th:TOQ):TQ:=fun p Q=>ta p fun e1 p1=>tl p1 fun lo p2=>th p2 fun hi p3=>∃u:Str,lk p3 e1=.str u/\u.length<=100000/\Q (.fz (.str (Txt.slice u lo hi))) p3
theorem q_slS {lo hi:Option Expr} {tl th:TOQ} {p2:Pos} (he:PE X e (Up C ta)) (hl:PO X lo (UpO C tl)) (hu:PO X hi (UpO C th)):PE X (.Subscript e (.Slice lo hi none p2) pos) (Up C (qSlS ta tl th)):=
 QE.mk (pe_slice sl_str he hl hu) fun p σ F H R rs ht=>up1 rs ht fun e1 p1 v1 F1 H1 rs1 s1 sh1 er1 q1=>by
  refine ⟨p1,F1,_,rs1,q1,fun lo H2 ⟨p2,F2,rs2,s2,sh2,q2⟩=>?_⟩
  refine ⟨p2,F2,_,rs2,q2,fun hi H3 ⟨p3,F3,rs3,s3,sh3,u,h1,h2,q3⟩=>?_⟩
  exact ⟨u,ev_str (er1.mono (s2.trans s3) (sh2.trans sh3)) h1,line_of h2,fin_ev rs3 (s1.trans (s2.trans s3)) (sh1.trans (sh2.trans sh3)) (.str _) q3⟩
def rAll (K:PySem.W.Frag):List V->Hp->VK->Prop:=fun xs H Q=>∃(a:Addr) (bs:List Bool),xs=[.ref a]/\SqL K H a (bs.map V.bl)/\Q (.bl (bs.all id)) H
theorem vals_bls:∀{bs:List Bool} {us:List Value},Vals (bs.map V.bl) us->us=bs.map Value.bool
 | [],[],_=>rfl
 | b::bs,u::us,h=>by
  cases h with
  | cons h1 h2=>
   cases h1
   rw [vals_bls (bs:=bs) h2];rfl
theorem call_all (hc:X.calm=true):CallR X (.builtin "all") (rAll X.K):=by
 intro pins s σ H xs us Q I r h
 obtain ⟨a,bs,rfl,hq,q⟩:=h
 obtain ⟨u,rfl,ru⟩:=vals1 r
 cases ru
 obtain ⟨its,rv,pl,hz⟩:=I.list hq
 have ei:=vals_bls rv
 subst ei
 have hl:=pl.isList
 have hlt:a<s.heap.objs.size:=by obtain ⟨_,e,_⟩:=hl;exact Heap.lt_size e
 refine call_all_walk (wpAny_pyIter_list hl ⟨s.heap.objs.size,_,_,_,_,_,fun i=>(bs.getD i false),rfl,Walks.list (A:=X.A.in1) (I.ok.hd hc) s.heap.objs.size a (Nat.ne_of_lt hlt) _,⟨⟨_,Heap.get?_push_size _ rfl,rfl,rfl⟩,hl.push _⟩,?_,fun h' tk hk=>?_⟩)
 ·intro i v s2 Q2 E2 hv hQ
  rw [List.getElem?_toArray,List.getElem?_map] at hv
  cases hb:bs[i]? with
  | none=>rw [hb] at hv;cases hv
  | some b=>
   rw [hb] at hv
   cases hv
   have e:bs.getD i false=b:=by rw [List.getD_eq_getElem?_getD,hb];rfl
   dsimp only at hQ
   rw [e] at hQ
   exact wpAny_truthy_bool hQ
 ·have e:((List.range (bs.map Value.bool).toArray.size).all fun i=>bs.getD i false)=bs.all id:=by
   rw [List.size_toArray,List.length_map]
   apply Bool.eq_iff_iff.mpr
   rw [List.all_eq_true,List.all_eq_true]
   constructor
   ·intro h x hx
    obtain ⟨i,hi,e⟩:=List.getElem_of_mem hx
    have:=h i (List.mem_range.mpr hi)
    rw [List.getD_eq_getElem?_getD,List.getElem?_eq_getElem hi,e] at this
    exact this
   ·intro h i hi
    rw [List.mem_range] at hi
    rw [List.getD_eq_getElem?_getD,List.getElem?_eq_getElem hi]
    exact h _ (List.getElem_mem hi)
  rw [e]
  refine ⟨.bl _,H,I.kept (t':=tk) fun b o g=>hk b o (fun hm=>?_) (Heap.get?_push_of_some _ g),rfl,q⟩
  rcases List.mem_cons.mp hm with e1|hm
  ·exact absurd (e1▸Heap.lt_size g) (Nat.lt_irrefl _)
  ·cases hm
theorem call_allK (h:X.K=K) (hc:X.calm=true):CallR X (.builtin "all") (rAll K):=by subst h;exact call_all hc
theorem RepL.bls {F:Hp}:∀{bs:List Bool} {vs:List V},RepL K F (bs.map D.bl) vs->vs=bs.map V.bl
 | [],_,.nil=>rfl
 | _::r,_,.cons q t=>by
  cases q
  rw [List.map_cons,RepL.bls (bs:=r) t]
def qAll (ta:TAQ):TQ:=fun p Q=>ta p fun es p1=>∃(e:Ev) (bs:List Bool),es=[e]/\lk p1 e=.lst (bs.map D.bl)/\Q (.fz (.bl (bs.all id))) p1
theorem cb_all (hK:X.K=C.K) (hc:X.calm=true) (hg:Gl X "all") (hm:X.mg "all"=none) (ha:PA X [e] (UpA C tas)) (he:starEach [e] X.env=(false,eval e X.env)::starEach [] X.env:=by rfl):PE X (.Call (.Name "all" ps) [e] [] pos) (Up C (qAll tas)):=
 QE.mk (pe_callB (call_allK hK hc) hg hm (by kernel_rfl) ha (he:=he)) fun p σ F H R rs ht=>upA1 rs ht fun es1 p1 vs1 F1 H1 rs1 s1 sh er1 ⟨e1,bs,h1,h2,q⟩=>by
  obtain ⟨v,rfl,er⟩:=evs1 er1 h1
  obtain ⟨a1,vs,rfl,g,r⟩:=ev_lst rs1 er h2
  rw [r.bls] at g
  exact ⟨a1,bs,rfl,.of g,fin_ev rs1 s1 sh (.bl _) q⟩
end
end L2
namespace TX
open PySem Builtin Builtin.Str StrLaws
def sep:Str:=" + "
theorem sep_l:sep.cps.toList=[32,43,32]:=by decide +kernel
theorem sep_n:sep.length=3:=by decide +kernel
theorem len_l (x:Str):x.cps.toList.length=x.length:=by simp [Str.length]
theorem ext_l {a b:Str} (h:a.cps.toList=b.cps.toList):a=b:=Str.ext' (Array.toList_inj.mp h)
theorem app_l (a b:Str):(a++b).cps.toList=a.cps.toList++b.cps.toList:=by rw [Str.cps_append];simp
theorem join2_l (w v:Str) (r:List Str):(Str.join sep (w::v::r)).cps.toList=w.cps.toList++([32,43,32]++(Str.join sep (v::r)).cps.toList):=by
 show (w++sep++Str.join sep (v::r)).cps.toList=_
 rw [app_l,app_l,sep_l,List.append_assoc]
theorem at_l {x:Str} {k:Nat} (h:At x sep x.length k):∃t,x.cps.toList.drop k=32::t:=by
 obtain ⟨h1,h2⟩:=h
 rw [subAt_eq,sep_l,sep_n] at h2
 have e:=eq_of_beq h2
 cases hd:x.cps.toList.drop k with
 | nil=>rw [hd] at e;simp at e
 | cons c t=>
  rw [hd] at e
  have:c=32:=by
   have:=congrArg List.head? e
   simpa using this
  exact ⟨t,by rw [this]⟩
theorem parts_of {x:Str}:∀(ws:List Str),ws≠[]->(∀w∈ws,32 ∉ w.cps.toList)->∀(a:Nat) (cuts:List Nat) (f:Nat),x.cps.toList.drop a=(Str.join sep ws).cps.toList->ChainG x sep x.length a cuts f->(∀k,f<=k->¬At x sep x.length k)->partsFrom x sep.length a cuts=ws
 | [],h,_,_,_,_,_,_,_=>absurd rfl h
 | [w],_,hw,a,cuts,f,hd,hc,hf=>by
  have hd':x.cps.toList.drop a=w.cps.toList:=hd
  cases cuts with
  | nil=>
   show [strSub x a x.length]=[w]
   congr 1
   refine ext_l ?_
   rw [strSub_toList,hd',List.take_of_length_le]
   rw [<-hd',List.length_drop,len_l]
   exact Nat.le_refl _
  | cons c r=>
   exfalso
   obtain ⟨h1,h2,_,_⟩:=hc
   obtain ⟨t,ht⟩:=at_l h2
   refine hw w List.mem_cons_self ?_
   rw [<-hd']
   have:x.cps.toList.drop c=(x.cps.toList.drop a).drop (c - a):=by rw [List.drop_drop];congr 1;omega
   rw [this] at ht
   exact List.mem_of_mem_drop (by rw [ht];exact List.mem_cons_self)
 | w::v::r,_,hw,a,cuts,f,hd,hc,hf=>by
  rw [join2_l] at hd
  have dp:x.cps.toList.drop (a+w.length)=[32,43,32]++(Str.join sep (v::r)).cps.toList:=by
   rw [<-List.drop_drop,hd,List.drop_left' (len_l w)]
  have ln:a+w.length+3<=x.length:=by
   have h1:=congrArg List.length dp
   rw [List.length_drop,len_l,List.length_append] at h1
   simp only [List.length_cons,List.length_nil] at h1
   omega
  have hat:At x sep x.length (a+w.length):=by
   refine ⟨by rw [sep_n];exact ln,?_⟩
   rw [subAt_eq,sep_l,sep_n,dp]
   rfl
  cases cuts with
  | nil=>
   have e:f=a:=hc
   exact absurd hat (hf _ (by omega))
  | cons c rc=>
   obtain ⟨h1,h2,h3,h4⟩:=hc
   have ec:c=a+w.length:=by
    by_cases z:c<a+w.length
    ·exfalso
     obtain ⟨t,ht⟩:=at_l h2
     refine hw w List.mem_cons_self ?_
     have e1:x.cps.toList.drop c=(x.cps.toList.drop a).drop (c - a):=by rw [List.drop_drop];congr 1;omega
     rw [e1,hd,List.drop_append_of_le_length (by rw [len_l];omega)] at ht
     have hne:w.cps.toList.drop (c - a)≠[]:=fun z2=>by
      have:=congrArg List.length z2
      rw [List.length_drop,len_l] at this
      simp at this
      omega
     cases hq:w.cps.toList.drop (c - a) with
     | nil=>exact absurd hq hne
     | cons y ys=>
      rw [hq] at ht
      have:y=32:=by
       have:=congrArg List.head? ht
       simpa using this
      subst this
      exact List.mem_of_mem_drop (by rw [hq];exact List.mem_cons_self)
    ·by_cases z2:a+w.length<c
     ·exact absurd hat (h3 _ (by omega) z2)
     ·omega
   subst ec
   show strSub x a (a+w.length)::partsFrom x sep.length (a+w.length+sep.length) rc=w::v::r
   congr 1
   ·refine ext_l ?_
    rw [strSub_toList,hd,Nat.add_sub_cancel_left,<-len_l w,List.take_left]
   ·refine parts_of (v::r) (by simp) (fun u hu=>hw u (List.mem_cons_of_mem _ hu)) _ rc f ?_ h4 hf
    rw [sep_n,<-List.drop_drop,dp]
    rfl
theorem kind1 (x:Str):¬Builtin.Str.strKind x<Builtin.Str.strKind sep:=by
 have:Builtin.Str.strKind sep=1:=by decide +kernel
 rw [this]
 unfold Builtin.Str.strKind
 split
 ·omega
 ·split<;>omega
theorem split_join {ws:List Str} (h:ws≠[]) (hw:∀w∈ws,32 ∉ w.cps.toList):Txt.split (Str.join sep ws) sep=ws:=by
 have one:∀w,ws=[w]->[Str.join sep ws]=ws:=fun w e=>by subst e;rfl
 unfold Txt.split
 by_cases h1:(Str.join sep ws).length<sep.length
 ·rw [if_pos (by simp [h1])]
  match ws,h with
  | [w],_=>rfl
  | w::v::r,_=>
   exfalso
   have:=congrArg List.length (join2_l w v r)
   rw [len_l,List.length_append,List.length_append] at this
   simp only [List.length_cons,List.length_nil] at this
   rw [sep_n] at h1
   omega
 ·rw [if_neg (by simp [h1,kind1])]
  obtain ⟨f,hc,hf⟩:=occ_tight (Str.join sep ws) sep (by rw [sep_n];decide)
  have main:=parts_of ws h hw 0 _ f (by rw [List.drop_zero]) hc hf
  split
  ·rename_i he
   rw [List.isEmpty_iff.mp he] at main
   have m2:[strSub (Str.join sep ws) 0 (Str.join sep ws).length]=ws:=main
   rw [sub_whole] at m2
   exact m2
  ·rw [partsBetween_eq];exact main
def tx (n:Int):Str:=Str.ofString (toString n)
open PySem.W.KIN NumText
theorem tx_l (m:Nat):(tx (m:Int)).cps.toList=(Nat.toDigits 10 m).map Char.toNat:=signs_num m
theorem tx_dig (m:Nat):AllDigits (tx (m:Int)).cps.toList:=by
 intro c hc
 rw [tx_l] at hc
 obtain ⟨ch,hch,e⟩:=List.mem_map.mp hc
 have r:=PyProof.Rows.digit_range (Nat.isDigit_of_mem_toDigits (by decide) (by decide) hch)
 rw [<-e]
 exact r
theorem dig_len:∀(k m:Nat),1<=k->m<10 ^ k->(Nat.toDigits 10 m).length<=k
 | 0,_,h,_=>by omega
 | k+1,m,_,hm=>by
  by_cases h:m<10
  ·rw [Nat.toDigits_of_lt_base h];simp
  ·have hm':m % 10<10:=Nat.mod_lt m (by decide)
   have t:Nat.toDigits 10 (m / 10)++Nat.toDigits 10 (m % 10)=Nat.toDigits 10 (10 * (m / 10)+m % 10):=Nat.toDigits_append_toDigits (by decide) (by omega) hm'
   rw [Nat.div_add_mod] at t
   have e:10 ^ (k+1)=10 ^ k * 10:=Nat.pow_succ ..
   have k1:1<=k:=by
    cases k with
    | zero=>simp at hm;omega
    | succ k=>omega
   have ih:=dig_len k (m / 10) k1 (by omega)
   rw [<-t,List.length_append,Nat.toDigits_of_lt_base hm']
   simp
   omega
theorem dig_head:∀(m:Nat),1<=m->∃c r,Nat.toDigits 10 m=c::r/\c.toNat≠48:=by
 intro m
 induction m using Nat.strongRecOn with
 | _ m ih=>
  intro h1
  by_cases h:m<10
  ·rw [Nat.toDigits_of_lt_base h]
   refine ⟨_,[],rfl,?_⟩
   have all:∀d:Nat,d<10->1<=d->(Nat.digitChar d).toNat≠48:=by decide
   exact all m h h1
  ·have hm':m % 10<10:=Nat.mod_lt m (by decide)
   have t:Nat.toDigits 10 (m / 10)++Nat.toDigits 10 (m % 10)=Nat.toDigits 10 (10 * (m / 10)+m % 10):=Nat.toDigits_append_toDigits (by decide) (by omega) hm'
   rw [Nat.div_add_mod] at t
   obtain ⟨c,r,e,hc⟩:=ih (m / 10) (by omega) (by omega)
   rw [<-t,e]
   exact ⟨c,_,rfl,hc⟩
structure Num (n:Int):Prop where
 dig:AllDigits (tx n).cps.toList
 len1:1<=(tx n).length
 len:(tx n).length<=40
 rd:intText? (tx n)=some n
 hd:∃c r,(tx n).cps.toList=c::r/\c≠48
 sp:32 ∉ (tx n).cps.toList
 as:(tx n).cps.all (·<128)=true
 lg:n.natAbs.log2<1920
theorem num_of {n:Int} (h1:1<=n) (h2:n<10 ^ 40):Num n:=by
 obtain ⟨m,rfl⟩:=Int.eq_ofNat_of_zero_le (show 0<=n by omega)
 have m1:1<=m:=by omega
 have m2:m<10 ^ 40:=by exact_mod_cast h2
 have hd:=tx_dig m
 obtain ⟨c,r,e,hc⟩:=dig_head m m1
 have el:(tx (m:Int)).cps.toList=c.toNat::r.map Char.toNat:=by rw [tx_l,e];rfl
 have ll:(tx (m:Int)).length<=40:=by
  rw [<-len_l,tx_l,List.length_map]
  exact dig_len 40 m (by decide) m2
 have rd:=intText_digits hd (by rw [el];simp) (Nat.le_trans ll (by decide))
 rw [tx_l,val_back] at rd
 refine ⟨hd,by rw [<-len_l,el];simp,ll,rd,⟨_,_,el,hc⟩,fun z=>?_,?_,?_⟩
 ·have:=hd 32 z;omega
 ·rw [<-Array.all_toList,List.all_eq_true]
  intro c hc
  have:=hd c hc
  exact decide_eq_true (by omega)
 ·have h0:m≠0:=by omega
  have:m<2 ^ 1000:=Nat.lt_trans m2 (by decide +kernel)
  exact Nat.lt_of_lt_of_le ((Nat.log2_lt h0).mpr this) (by decide)
def figs:Str:="0123456789"
theorem fig_in:∀c:Nat,48<=c/\c<=57->L2.inS ⟨#[c]⟩ figs=true:=by
 intro c hc
 have all:∀k:Fin 10,L2.inS ⟨#[48+k.val]⟩ figs=true:=by decide +kernel
 have:=all ⟨c - 48,by omega⟩
 rw [show 48+(⟨c - 48,by omega⟩:Fin 10).val=c by show 48+(c - 48)=c;omega] at this
 exact this
end TX
namespace TX
open PySem Builtin Builtin.Str StrLaws
open PySem.W.KIN NumText
theorem digs_of:∀(k:Nat) (l:List Nat),l.length=k->(∀c∈l,48<=c/\c<=57)->(∃c r,l=c::r/\c≠48)->∃m,1<=m/\m<10 ^ k/\(Nat.toDigits 10 m).map Char.toNat=l:=by
 have dc:∀d:Nat,d<10->(Nat.digitChar d).toNat=48+d:=by decide
 intro k
 induction k with
 | zero=>
  intro l hl _ ⟨c,r,e,_⟩
  rw [e] at hl;simp at hl
 | succ k ih=>
  intro l hl hd hh
  have hne:l≠[]:=fun z=>by rw [z] at hl;simp at hl
  obtain ⟨i,x,rfl⟩:∃i x,l=i++[x]:=⟨l.dropLast,l.getLast hne,(List.dropLast_concat_getLast hne).symm⟩
  have hx:=hd x (by simp)
  have li:i.length=k:=by simpa using hl
  by_cases z:i=[]
  ·subst z
   obtain ⟨c,r,e,hc⟩:=hh
   have:x=c:=by simpa using congrArg List.head? e
   subst this
   refine ⟨x - 48,by omega,?_,?_⟩
   ·have:k=0:=by simpa using li.symm
    subst this
    omega
   ·rw [Nat.toDigits_of_lt_base (by omega)]
    simp only [List.map_cons,List.map_nil,List.nil_append]
    rw [dc _ (by omega),show 48+(x - 48)=x by omega]
  ·obtain ⟨m,m1,m2,m3⟩:=ih i li (fun c hc=>hd c (by simp [hc])) (by
    obtain ⟨c,r,e,hc⟩:=hh
    cases i with
    | nil=>exact absurd rfl z
    | cons y ys=>
     rw [List.cons_append,List.cons.injEq] at e
     exact ⟨y,ys,rfl,by rw [e.1];exact hc⟩)
   refine ⟨10 * m+(x - 48),by omega,?_,?_⟩
   ·rw [Nat.pow_succ];omega
   ·have t:Nat.toDigits 10 m++Nat.toDigits 10 (x - 48)=Nat.toDigits 10 (10 * m+(x - 48)):=Nat.toDigits_append_toDigits (by decide) (by omega) (by omega)
    rw [<-t,List.map_append,m3,Nat.toDigits_of_lt_base (by omega)]
    simp only [List.map_cons,List.map_nil]
    rw [dc _ (by omega),show 48+(x - 48)=x by omega]
def okW (w:Str):Bool:=decide (1<=w.length) && decide (w.length<=40) && !(w.cps.toList.head? == some 48) && w.cps.toList.all fun c=>decide (48<=c) && decide (c<=57)
theorem okW_iff {w:Str}:okW w=true ↔ ∃n:Int,1<=n/\n<10 ^ 40/\w=tx n:=by
 constructor
 ·intro h
  unfold okW at h
  simp only [Bool.and_eq_true,decide_eq_true_eq,List.all_eq_true,Bool.not_eq_true'] at h
  obtain ⟨⟨⟨h1,h2⟩,h3⟩,h4⟩:=h
  cases hl:w.cps.toList with
  | nil=>rw [<-len_l,hl] at h1;simp at h1
  | cons c r=>
   rw [hl] at h3 h4
   have hc:c≠48:=by simpa using h3
   obtain ⟨m,m1,m2,m3⟩:=digs_of _ (c::r) rfl h4 ⟨c,r,rfl,hc⟩
   rw [<-hl,len_l] at m2
   refine ⟨(m:Int),by omega,?_,ext_l ?_⟩
   ·have:m<10 ^ 40:=Nat.lt_of_lt_of_le m2 (Nat.pow_le_pow_right (by decide) h2)
    exact_mod_cast this
   ·rw [hl,tx_l,m3]
 ·rintro ⟨n,h1,h2,rfl⟩
  have hn:=num_of h1 h2
  obtain ⟨c,r,e,hc⟩:=hn.hd
  unfold okW
  simp only [Bool.and_eq_true,decide_eq_true_eq,List.all_eq_true,Bool.not_eq_true']
  exact ⟨⟨⟨hn.len1,hn.len⟩,by rw [e];simpa using hc⟩,hn.dig⟩
def nm (w:Str):Option Int:=if okW w then intText? w else none
theorem nm_tx {n:Int} (h1:1<=n) (h2:n<10 ^ 40):nm (tx n)=some n:=by
 unfold nm
 rw [if_pos (okW_iff.mpr ⟨n,h1,h2,rfl⟩),(num_of h1 h2).rd]
theorem nm_some {w:Str} {n:Int} (h:nm w=some n):1<=n/\n<10 ^ 40/\w=tx n:=by
 by_cases z:okW w=true
 ·obtain ⟨m,m1,m2,rfl⟩:=okW_iff.mp z
  rw [nm_tx m1 m2] at h
  cases h
  exact ⟨m1,m2,rfl⟩
 ·unfold nm at h
  rw [if_neg z] at h
  cases h
theorem nm_none {w:Str}:nm w=none ↔ okW w=false:=by
 constructor
 ·intro h
  cases z:okW w with
  | false=>rfl
  | true=>
   obtain ⟨m,m1,m2,rfl⟩:=okW_iff.mp z
   rw [nm_tx m1 m2] at h
   cases h
 ·intro h
  unfold nm
  rw [h];rfl
theorem nm_all:∀{ws:List Str} {ns:List Int},ws.map nm=ns.map some->ws=ns.map tx/\∀n∈ns,1<=n/\n<10 ^ 40
 | [],[],_=>⟨rfl,by simp⟩
 | [],_::_,h=>by simp at h
 | _::_,[],h=>by simp at h
 | w::ws,n::ns,h=>by
  rw [List.map_cons,List.map_cons,List.cons.injEq] at h
  obtain ⟨a,b,c⟩:=nm_some h.1
  obtain ⟨d,e⟩:=nm_all h.2
  refine ⟨by rw [List.map_cons,<-d,<-c],fun x hx=>?_⟩
  rcases List.mem_cons.mp hx with rfl|hx
  ·exact ⟨a,b⟩
  ·exact e x hx
theorem text_of {t:Str} {ns:List Int} (h:(Txt.split t sep).map nm=ns.map some):t=Str.join sep (ns.map tx):=by
 rw [<-(nm_all h).1,join_split]
theorem fig_not:∀c:Nat,c<128->¬(48<=c/\c<=57)->L2.inS ⟨#[c]⟩ figs=false:=by
 intro c hc hn
 have all:∀k:Fin 128,¬(48<=k.val/\k.val<=57)->L2.inS ⟨#[k.val]⟩ figs=false:=by decide +kernel
 exact all ⟨c,hc⟩ hn
def wrt (w:Str):Bool:=decide (1<=w.length) && decide (w.length<=40) && (decide (w.length=1) || !(w.cps.toList.head? == some 48)) && w.cps.toList.all fun c=>decide (48<=c) && decide (c<=57)
theorem wrt_ok {w:Str}:okW w=(!decide (w=("0":Str)) && wrt w):=by
 have l0:("0":Str).cps.toList=[48]:=by decide +kernel
 by_cases z:w=("0":Str)
 ·subst z
  decide +kernel
 ·unfold okW wrt
  rw [decide_eq_false z]
  by_cases y:w.length=1
  ·rw [y]
   cases hl:w.cps.toList with
   | nil=>rw [<-len_l,hl] at y;simp at y
   | cons c r=>
    have r0:r=[]:=by
     have:=len_l w
     rw [hl,y] at this
     simpa using this
    subst r0
    have hc:c≠48:=fun e=>z (ext_l (by rw [hl,l0,e]))
    simp [hc]
  ·simp [y]
theorem mem_join_l:∀{ws:List Str} {w:Str},w∈ws->(∀c∈w.cps.toList,c∈(Str.join sep ws).cps.toList)/\w.length<=(Str.join sep ws).length
 | [v],w,h=>by
  rw [List.mem_singleton] at h
  subst h
  exact ⟨fun c hc=>hc,Nat.le_refl _⟩
 | v::u::r,w,h=>by
  have e:=join2_l v u r
  have el:=congrArg List.length e
  rw [len_l,List.length_append,List.length_append,len_l,len_l] at el
  simp only [List.length_cons,List.length_nil] at el
  rcases List.mem_cons.mp h with rfl|h
  ·refine ⟨fun c hc=>?_,by omega⟩
   rw [e];exact List.mem_append.mpr (.inl hc)
  ·obtain ⟨i1,i2⟩:=mem_join_l (ws:=u::r) h
   refine ⟨fun c hc=>?_,by omega⟩
   rw [e];exact List.mem_append.mpr (.inr (List.mem_append.mpr (.inr (i1 c hc))))
theorem join_many:∀{ws:List Str},3 * ws.length<=(Str.join sep ws).length+3
 | []=>by simp
 | [v]=>by simp
 | v::u::r=>by
  have e:=join2_l v u r
  have el:=congrArg List.length e
  rw [len_l,List.length_append,List.length_append,len_l,len_l] at el
  simp only [List.length_cons,List.length_nil] at el
  have ih:=join_many (ws:=u::r)
  simp only [List.length_cons] at ih ⊢
  omega
theorem sum_join:∀(ws:List Str),(ws.map (·.length)).sum<=(Str.join sep ws).length
 | []=>by simp
 | [v]=>by
  show (v.length+0)<=v.length
  omega
 | v::u::r=>by
  have e:=join2_l v u r
  have el:=congrArg List.length e
  rw [len_l,List.length_append,List.length_append,len_l,len_l] at el
  simp only [List.length_cons,List.length_nil] at el
  have ih:=sum_join (u::r)
  rw [List.map_cons,List.sum_cons]
  omega
theorem sum_sub {vs ws:List Str} (h:vs.Sublist ws):(vs.map (·.length)).sum<=(ws.map (·.length)).sum:=by
 induction h with
 | slnil=>exact Nat.le_refl _
 | cons a _ ih=>rw [List.map_cons,List.sum_cons];omega
 | cons_cons a _ ih=>rw [List.map_cons,List.map_cons,List.sum_cons,List.sum_cons];omega
theorem join_mem:∀{ws:List Str} {c:Nat},c∈(Str.join sep ws).cps.toList->c=32\/c=43\/∃w∈ws,c∈w.cps.toList
 | [],c,h=>by
  have:(Str.join sep []).cps.toList=[]:=by decide +kernel
  rw [this] at h;cases h
 | [v],c,h=>.inr (.inr ⟨v,by simp,h⟩)
 | v::u::r,c,h=>by
  rw [join2_l] at h
  rcases List.mem_append.mp h with h|h
  ·exact .inr (.inr ⟨v,by simp,h⟩)
  ·rcases List.mem_append.mp h with h|h
   ·simp at h;omega
   ·rcases join_mem (ws:=u::r) h with h|h|⟨w,h1,h2⟩
    ·exact .inl h
    ·exact .inr (.inl h)
    ·exact .inr (.inr ⟨w,List.mem_cons_of_mem _ h1,h2⟩)
theorem word_as {t w:Str} (ha:t.cps.all (·<128)=true) (hw:w∈Txt.split t sep):w.cps.all (·<128)=true/\w.length<=t.length:=by
 have j:=mem_join_l hw
 rw [join_split] at j
 refine ⟨?_,j.2⟩
 rw [<-Array.all_toList,List.all_eq_true] at ha ⊢
 exact fun c hc=>ha c (j.1 c hc)
theorem words_many (t:Str):3 * (Txt.split t sep).length<=t.length+3:=by
 have:=join_many (ws:=Txt.split t sep)
 rw [join_split] at this
 exact this
end TX
namespace M
theorem range_getD (xs:List Int):(List.range xs.length).map (fun i=>xs.getD i 0)=xs:=by
 apply List.ext_getElem?
 intro i
 rw [List.getElem?_map]
 by_cases h:i<xs.length
 ·rw [List.getElem?_range h,List.getElem?_eq_getElem h]
  show some (xs.getD i 0)=some xs[i]
  rw [List.getD_eq_getElem?_getD,List.getElem?_eq_getElem h];rfl
 ·rw [List.getElem?_eq_none (by simpa using h),List.getElem?_eq_none (by omega)];rfl
end M
local macro_rules | `(tactic| simp only [L2.QL]) => `(tactic| first | exact Or.inl rfl | exact Or.inr rfl)
def L2.qD:="~qVar ~qC ~q2 ~q20 ~q1 ~qTest ~qEq ~qChain ~qAnd ~qOr ~qNot ~qAndV ~qOrV ~qIf ~qFz ~nVal ~qNil ~qCons ~nLst ~qTup ~qIx ~qoNone ~qoSome ~nSl ~nRev ~nCat ~qLen ~qToI ~qIsi ~qApp ~qNext ~qDrop ~qRet ~qRetO ~qIfS ~qSet ~qSetN ~qSetI ~gqName ~gkName ~iqR1 ~iqL ~qYes ~nCall ~Sl.ev ~Sl.val ~Sl.mu ~Sl.put ~Rt.val ~Rt.sl ~lk ~fzs ~seqOf ~toI ~argOf ~argsOf ~owIx ~back ~outs ~startP ~isTy ~qAddS ~qMulS ~qIntS ~qRepr ~qEqD ~qInD ~qStrI ~qLenS ~qInS ~qIxS ~qJoin ~nSplit ~iqS ~nCallX ~qRaise ~qTry ~qIsX ~qIsXs ~nOr ~nSortedA ~qSlS ~qAll List.map_cons List.map_nil List.length_cons List.length_nil List.replicate_succ List.replicate_zero List.cons_append List.nil_append List.getElem?_cons_zero List.getElem?_cons_succ List.getElem?_nil List.set_cons_zero List.set_cons_succ List.drop_succ_cons List.drop_zero"
def L2.qL:="↓~ex_ss ↓~ex_int ↓~ex_int2 ↓~ex_bl ↓~ex_fz ↓~ex_fzl ↓~ex_some ↓~ex_lst ↓~ex_own ↓~ex_tup ↓~ex_e1 ↓~ss_and ~qVar ~qC ~q2 ~q20 ~q1 ~qTest ~qEq ~qChain ~qAnd ~qOr ~qNot ~qAndV ~qOrV ~qIf ~qFz ~nVal ~qNil ~qCons ~nLst ~qTup ~qIx ~qoNone ~qoSome ~nSl ~nRev ~nCat ~qLen ~qToI ~qIsi ~qApp ~qNext ~qDrop ~qRet ~qRetO ~qIfS ~qSet ~qSetN ~qSetI ~gqName ~gkName ~iqR1 ~iqL ~qYes ~nCall ~Sl.ev ~Sl.val ~Sl.mu ~Sl.put ~Rt.val ~Rt.sl ~lk ~fzs ~seqOf ~toI ~argOf ~argsOf ~owIx ~back ~outs ~startP ~isTy ~eqd_int ~eqd_bl ~eqd_str ~deq_int ~deq_bl ~deq_str ~deq_ints ~deq_self ~D.int.injEq ~D.bl.injEq ~D.str.injEq ~D.lst.injEq ~D.tup.injEq ~D.atom.injEq ~Ev.fz.injEq ~Ev.ow.injEq Option.some.injEq List.cons.injEq exists_eq_left exists_eq_left' exists_eq_right exists_and_left exists_const exists_eq_right' exists_false false_and and_false List.map_cons List.map_nil List.length_cons List.length_nil Nat.reduceAdd Nat.reduceSub List.replicate_succ List.replicate_zero List.cons_append List.nil_append List.append_nil List.getElem?_cons_zero List.getElem?_cons_succ List.getElem?_nil List.set_cons_zero List.set_cons_succ List.drop_succ_cons List.drop_zero Bool.not_true Bool.not_false Bool.false_eq_true if_true if_false ite_true ite_false eq_self true_and and_true decide_eq_true_eq List.nodup_nil List.nodup_cons List.not_mem_nil not_false_eq_true Option.isSome_some reduceCtorEq ~CMul ~CMod ~CPow ~CDivQ Int.reduceToNat Int.reducePow Int.reduceLT Int.reduceLE Int.reduceNeg Nat.reduceLeDiff Int.reduceMul Int.reduceAdd Int.reduceSub Int.reduceEq Int.zero_add Int.reduceAbs Int.reduceNe Nat.reduceLT Nat.reducePow Int.cast_ofNat_Int or_true true_or Bool.not_eq_true' decide_eq_false_iff_not Bool.true_and Bool.and_true Bool.false_and Bool.and_false decide_true decide_false ~Sl.d.injEq ~Sl.bor.injEq ~Sl.own.injEq ~Rt.rd.injEq ~Rt.ro.injEq String.reduceBEq String.reduceEq String.reduceBNe Bool.or_true Bool.or_false Bool.true_or Bool.false_or ~atl_0 ~atl_1 ~atl_2 ~atl_3 ~ixl_20 ~ixl_21 ite_not implies_true exists_eq exists_eq' ~nb_s ~nb_n ~nb_d ~nb_o ~nb_u ~mu_s ~mu_n ~mu_d ~mu_o ~mu_b ~mu_u ~pu_s ~pu_0 and_assoc ~seqL ~deq_scr0 ~eqd_scr0 ~eqd_l0 ~deq_l0 ~eqd_l1 ~deq_l1 ~eqd_00 ~D.scr.injEq ~qAddS ~qMulS ~qIntS ~qRepr ~eqd_l2 ~deq_l2 ~eqd_l3 ~deq_l3 ~eqd_l4 ~deq_l4 ~qEqD ~qInD ~qStrI ~qLenS ~qInS ~qIxS ~qJoin ~nSplit ~iqS ~nCallX ~qRaise ~qTry ~PEnds.goes ~qIsX ~qIsXs ~tyD ~xfD ~nOr ~V.ref.injEq ~V.int.injEq ~HO.lst.injEq ~nSortedA ~qSlS ~qAll"
def L2.qS(s:String):List String:=(s.splitOn " ").map (·.replace "~" "_root_.L2.")
local macro_rules | `(tactic| simp only [Q, $xs,*]) => do { let ds ← (L2.qS L2.qD).toArray.mapM fun x => if x.startsWith "↓" then `(Lean.Parser.Tactic.simpLemma| ↓ $(Lean.mkIdent (x.drop 1).toName):ident) else `(Lean.Parser.Tactic.simpLemma| $(Lean.mkIdent x.toName):ident); let ys ← (L2.qS (L2.qL ++ " ~qSeq")).toArray.mapM fun x => if x.startsWith "↓" then `(Lean.Parser.Tactic.simpLemma| ↓ $(Lean.mkIdent (x.drop 1).toName):ident) else `(Lean.Parser.Tactic.simpLemma| $(Lean.mkIdent x.toName):ident); `(tactic| ((try dsimp only [$ds,*]); (try simp only [$xs,*, $ys,*]))) }
local macro_rules | `(tactic| simp only [Q]) => do { let ds ← (L2.qS L2.qD).toArray.mapM fun x => if x.startsWith "↓" then `(Lean.Parser.Tactic.simpLemma| ↓ $(Lean.mkIdent (x.drop 1).toName):ident) else `(Lean.Parser.Tactic.simpLemma| $(Lean.mkIdent x.toName):ident); let ys ← (L2.qS (L2.qL ++ " ~qSeq")).toArray.mapM fun x => if x.startsWith "↓" then `(Lean.Parser.Tactic.simpLemma| ↓ $(Lean.mkIdent (x.drop 1).toName):ident) else `(Lean.Parser.Tactic.simpLemma| $(Lean.mkIdent x.toName):ident); `(tactic| ((try dsimp only [$ds,*]); (try simp only [$ys,*]))) }
local macro_rules | `(tactic| simp only [R, $xs,*]) => do { let ds ← (L2.qS L2.qD).toArray.mapM fun x => if x.startsWith "↓" then `(Lean.Parser.Tactic.simpLemma| ↓ $(Lean.mkIdent (x.drop 1).toName):ident) else `(Lean.Parser.Tactic.simpLemma| $(Lean.mkIdent x.toName):ident); let ys ← (L2.qS (L2.qL)).toArray.mapM fun x => if x.startsWith "↓" then `(Lean.Parser.Tactic.simpLemma| ↓ $(Lean.mkIdent (x.drop 1).toName):ident) else `(Lean.Parser.Tactic.simpLemma| $(Lean.mkIdent x.toName):ident); `(tactic| ((try dsimp only [$ds,*]); (try simp only [$xs,*, $ys,*]))) }
local macro_rules | `(tactic| simp only [R]) => do { let ds ← (L2.qS L2.qD).toArray.mapM fun x => if x.startsWith "↓" then `(Lean.Parser.Tactic.simpLemma| ↓ $(Lean.mkIdent (x.drop 1).toName):ident) else `(Lean.Parser.Tactic.simpLemma| $(Lean.mkIdent x.toName):ident); let ys ← (L2.qS (L2.qL)).toArray.mapM fun x => if x.startsWith "↓" then `(Lean.Parser.Tactic.simpLemma| ↓ $(Lean.mkIdent (x.drop 1).toName):ident) else `(Lean.Parser.Tactic.simpLemma| $(Lean.mkIdent x.toName):ident); `(tactic| ((try dsimp only [$ds,*]); (try simp only [$ys,*]))) }
namespace K46
open PySem L2
def top (i:Nat):Stmt:=PySem.Challenge.pw_mirrorsums_k46_texts_of_no_way.main.body.getD i (.Pass ⟨0,0,0,0⟩)
structure Txt (mg:Str->Option Value):Prop where
 z_isinstance:mg "isinstance"=none
 z_int:mg "int"=none
 z_list:mg "list"=none
 z_len:mg "len"=none
 z_range:mg "range"=none
 z_str:mg "str"=none
 z_sorted:mg "sorted"=none
 z_repr:mg "repr"=none
 z_all:mg "all"=none
 z_ValueError:mg "ValueError"=none
 c_MOST_FIGURES:∃t,mg "MOST_FIGURES"=some (.int 40 t)
 c_FIGURES_OF_TEN:∃t,mg "FIGURES_OF_TEN"=some (.str "0123456789" t)
 c_WAY_OF_NONE:∃t,mg "WAY_OF_NONE"=some (.str "0" t)
structure XA where
 MirrorError:Addr
 NoBase:Addr
 NoNumber:Addr
 NoMirror:Addr
 NoPlace:Addr
 NoWay:Addr
 NoText:Addr
 NoCommand:Addr
structure XT (K:PySem.W.Frag) (mg:Str->Option Value) (cs:XA):Prop where
 x_MirrorError:XCl K mg "MirrorError" cs.MirrorError
 x_NoBase:XCl K mg "NoBase" cs.NoBase
 x_NoNumber:XCl K mg "NoNumber" cs.NoNumber
 x_NoMirror:XCl K mg "NoMirror" cs.NoMirror
 x_NoPlace:XCl K mg "NoPlace" cs.NoPlace
 x_NoWay:XCl K mg "NoWay" cs.NoWay
 x_NoText:XCl K mg "NoText" cs.NoText
 x_NoCommand:XCl K mg "NoCommand" cs.NoCommand
 f_NoText:XF K cs.NoText
 s_NoText:PySem.W.subIn K (.ref cs.NoText) (.ref cs.MirrorError)=some true
 v_NoText:PySem.W.kitOne K (.ref cs.NoText) (.type "ValueError")=some true
 v_N:PySem.W.kitOne K (.type "NoneType") (.type "ValueError")=some false
 n_NoBase:PySem.W.kitOne K (.type "NoneType") (.ref cs.NoBase)=some false
 n_NoCommand:PySem.W.kitOne K (.type "NoneType") (.ref cs.NoCommand)=some false
 n_NoMirror:PySem.W.kitOne K (.type "NoneType") (.ref cs.NoMirror)=some false
 n_NoNumber:PySem.W.kitOne K (.type "NoneType") (.ref cs.NoNumber)=some false
 n_NoPlace:PySem.W.kitOne K (.type "NoneType") (.ref cs.NoPlace)=some false
 n_NoText:PySem.W.kitOne K (.type "NoneType") (.ref cs.NoText)=some false
 n_NoWay:PySem.W.kitOne K (.type "NoneType") (.ref cs.NoWay)=some false
 k_NoText_NoBase:PySem.W.kitOne K (.ref cs.NoText) (.ref cs.NoBase)=some false
 k_NoText_NoCommand:PySem.W.kitOne K (.ref cs.NoText) (.ref cs.NoCommand)=some false
 k_NoText_NoMirror:PySem.W.kitOne K (.ref cs.NoText) (.ref cs.NoMirror)=some false
 k_NoText_NoNumber:PySem.W.kitOne K (.ref cs.NoText) (.ref cs.NoNumber)=some false
 k_NoText_NoPlace:PySem.W.kitOne K (.ref cs.NoText) (.ref cs.NoPlace)=some false
 k_NoText_NoText:PySem.W.kitOne K (.ref cs.NoText) (.ref cs.NoText)=some true
 k_NoText_NoWay:PySem.W.kitOne K (.ref cs.NoText) (.ref cs.NoWay)=some false
theorem alld (ds:List D):∀(i:Nat) (s:Sl),(ds.map Sl.d)[i]? = some s->∃d,s=.d d:=fun i s h=>by
 rw [List.getElem?_map] at h
 cases e:ds[i]? with
 | none=>rw [e] at h;cases h
 | some d=>rw [e] at h;cases h;exact ⟨d,rfl⟩
abbrev s_is_written:Stmt:=top 13
abbrev A_is_written (K:PySem.W.Frag) (mg:Str->Option Value):=DefAt K mg "is_written" s_is_written ["word","most"]
theorem sc_is_written:FnScope ["word","most","sign"] ["word","most"] (defScope s_is_written):=⟨rfl,rfl,rfl,by decide +kernel,rfl,by decide +kernel,by decide +kernel⟩
abbrev s_show_way:Stmt:=top 14
abbrev A_show_way (K:PySem.W.Frag) (mg:Str->Option Value):=DefAt K mg "show_way" s_show_way ["way"]
theorem sc_show_way:FnScope ["way"] ["way"] (defScope s_show_way):=⟨rfl,rfl,rfl,by decide +kernel,rfl,by decide +kernel,by decide +kernel⟩
abbrev s_read_way:Stmt:=top 15
abbrev A_read_way (K:PySem.W.Frag) (mg:Str->Option Value):=DefAt K mg "read_way" s_read_way ["text"]
theorem sc_read_way:FnScope ["text","way","word","part"] ["text"] (defScope s_read_way):=⟨rfl,rfl,rfl,by decide +kernel,rfl,by decide +kernel,by decide +kernel⟩
section
variable {P:Program} {w:World} {K:PySem.W.Frag} {mg:Str->Option Value} {base:Heap}
theorem seq_goK {t R:TSQ} {E:PEnds} {p:PSt} (h:∀k:PSt->Prop,(∀p',R E p'->k p')->t { E with nx:=k } p):qSeq t R E p:=h (R E) (fun _ h=>h)
def wt (ns:List Int):Str:=if ns=[] then "0" else Txt.join TX.sep (ns.map TX.tx)
structure Wy (ns:List Int):Prop where
 rng:∀n∈ns,1<=n/\n<10 ^ 40
 fall:ns.Pairwise (fun x y=>y<=x)
 few:ns.length<=20000
 tl:(wt ns).length<=100000
theorem Wy.at {ns:List Int} (h:Wy ns) {i:Nat} (hi:i<ns.length):1<=ns.getD i 0/\ns.getD i 0<10 ^ 40:=by
 refine h.rng _ ?_
 rw [List.getD_eq_getElem?_getD,List.getElem?_eq_getElem hi];exact List.getElem_mem hi
def S_is_written:PSp:=fun as R=>∃w:Str,as=[.d (.str w),.d (.int 40)]/\w.cps.all (·<128)=true/\w.length<=100000/\R (.rd (.bl (TX.wrt w))) as
theorem one0:("0":Str).cps.toList=[48]:=by decide +kernel
theorem chr_ne {c:Nat} (h:c≠48):((⟨#[c]⟩:Str)="0")=False:=eq_false fun z=>by
 have:=congrArg (fun s:Str=>s.cps.toList) z
 simp only [one0] at this
 simp at this
 exact h this
theorem tx_ne {n:Int} (h:TX.Num n):(TX.tx n=("0":Str))=False:=eq_false fun z=>by
 obtain ⟨c,r,e,hc⟩:=h.hd
 rw [z,one0] at e
 simp at e
 exact hc e.1.symm
theorem asc_at {w:Str} (ha:w.cps.all (·<128)=true) {i:Nat} (hi:i<w.cps.size):w.cps.getD i 0<128/\w.cps.getD i 0∈w.cps.toList:=by
 have hm:w.cps.getD i 0∈w.cps.toList:=by
  rw [Array.getD_eq_getD_getElem?,Array.getElem?_eq_getElem hi]
  exact Array.getElem_mem_toList hi
 rw [<-Array.all_toList,List.all_eq_true] at ha
 exact ⟨of_decide_eq_true (ha _ hm),hm⟩
theorem ok_is_written (T:Txt mg) (Df:A_is_written K mg):FnOk P w K mg base CX0 1 Df.f Df.fd ["word","most"] (spOf K S_is_written):=by
 obtain ⟨t_FIGURES_OF_TEN,c_FIGURES_OF_TEN⟩:=T.c_FIGURES_OF_TEN
 refine Df.F.okP sc_is_written (fun as R h=>?_) (fun cdv A outer s H E C as R hK hr h=>?_)
 ·obtain ⟨_,rfl,_⟩:=h;rfl
 have hu:=hr.units
 obtain ⟨w,rfl,wa,wl,q⟩:=h
 have ef:("0123456789":Str)=TX.figs:=rfl
 have ll:=TX.len_l w
 refine ⟨_,(s_cons (s_if (t_not (t_chain op_le op_le (q_c pe_int (fun _=>.int _)) (cb_lenS rfl T.z_len (a_cons (q_var (pv 0)) a_nil)) (q_var (pv 1)))) (s_one (s_ret (n_val (q_c pe_bl (fun _=>.bl _))))) s_nil)
    (s_cons (s_for PassesOwn.never rfl (i_str (q_var (pv 0))) (g_name (i:=2) sc_is_written.nd rfl (by simp only [L2.QL])) (s_one (s_if (t_notInS (q_var (pv 2)) (q_c (pe_glob (v:=.str "0123456789") rfl c_FIGURES_OF_TEN ⟨_,rfl⟩) (fun _=>.str _))) (s_one (s_ret (n_val (q_c pe_bl (fun _=>.bl _))))) s_nil)))
    (s_one (s_ret (n_val (q_orV (q_eq hK hu (cb_lenS rfl T.z_len (a_cons (q_var (pv 0)) a_nil)) (q_c pe_int (fun _=>.int _))) (q_one (q_ne hK hu (q_ixS (q_var (pv 0)) (q_c pe_int (fun _=>.int _)) (fun _ _=>rfl)) (q_c pe_str (fun _=>.str _)))))))))),?_⟩
 refine seq_goK fun kk hkk=>?_
 simp only [R]
 refine ⟨by omega,?_⟩
 refine ite2 (fun c1=>ite2 (fun c2=>hkk _ ?_) (fun c2=>?_)) (fun c1=>?_)
 rotate_left
 ·have e:TX.wrt w=false:=by
   unfold TX.wrt
   rw [decide_eq_false (show ¬w.length<=40 by omega)];simp
  rw [e] at q;exact q
 ·have e:TX.wrt w=false:=by
   unfold TX.wrt
   rw [decide_eq_false (show ¬1<=w.length by omega)];simp
  rw [e] at q;exact q
 obtain ⟨I,hI⟩:∃I:Nat->PSt->Prop,I=(fun (i:Nat) p=>∃w2:Option D,p=[some (.d (.str w)),some (.d (.int 40)),Option.map Sl.d w2]/\∀j,j<i->48<=w.cps.getD j 0/\w.cps.getD j 0<=57):=⟨_,rfl⟩
 refine seq_goP (for_q (n:=w.cps.size) (item:=fun i=>.str ⟨#[w.cps.getD i 0]⟩) (p1:=_) (fun Q h=>by simp only [Q];exact ⟨wa,h⟩) I (by rw [hI];exact ⟨none,rfl,fun j hj=>absurd hj (Nat.not_lt_zero _)⟩) ?_ ?_)
 ·intro i p hi hp
  rw [hI] at hp
  obtain ⟨w2,rfl,hp⟩:=hp
  obtain ⟨c128,hm⟩:=asc_at wa hi
  by_cases dd:48<=w.cps.getD i 0/\w.cps.getD i 0<=57
  ·have fi:=TX.fig_in _ dd
   simp only [Q,ef,fi]
   rw [hI]
   refine ⟨some _,rfl,fun j hj=>?_⟩
   by_cases y:j=i
   ·rw [y];exact dd
   ·exact hp j (by omega)
  ·have fi:=TX.fig_not _ c128 dd
   have e:TX.wrt w=false:=by
    unfold TX.wrt
    have:(w.cps.toList.all fun c=>decide (48<=c) && decide (c<=57))=false:=by
     cases z:(w.cps.toList.all fun c=>decide (48<=c) && decide (c<=57)) with
     | false=>rfl
     | true=>
      rw [List.all_eq_true] at z
      have:=z _ hm
      simp only [Bool.and_eq_true,decide_eq_true_eq] at this
      exact absurd this dd
    rw [this,Bool.and_false]
   rw [e] at q
   simp only [Q,ef,fi]
   exact q
 ·intro p hp
  rw [hI] at hp
  obtain ⟨w2,rfl,hp⟩:=hp
  have all:(w.cps.toList.all fun c=>decide (48<=c) && decide (c<=57))=true:=by
   rw [List.all_eq_true]
   intro c hc
   obtain ⟨j,hj,ej⟩:=List.getElem_of_mem hc
   have:=hp j (by rw [Array.length_toList] at hj;exact hj)
   rw [Array.getD_eq_getD_getElem?,Array.getElem?_eq_getElem (by rw [Array.length_toList] at hj;exact hj)] at this
   simp at ej this
   rw [ej] at this
   simp [this]
  cases hl:w.cps.toList with
  | nil=>rw [hl] at ll;simp at ll;omega
  | cons c r=>
   have at0:atI w.cps.toList 0=some c:=by rw [hl];have h:atI (c::r) ((0:Nat):Int)=some c:=atI_nat rfl;exact h
   have e:TX.wrt w=(decide (w.length=1) || !decide (c=48)):=by
    unfold TX.wrt
    rw [all,decide_eq_true (show 1<=w.length by omega),decide_eq_true (show w.length<=40 by omega),hl]
    by_cases y:c=48<;>simp [y]
   simp only [Q,at0]
   rw [e] at q
   refine ⟨wl,ite2 (fun c3=>?_) (fun c3=>⟨wl,?_⟩)⟩
   ·rw [decide_eq_true (show w.length=1 by omega),Bool.true_or] at q;exact q
   ·rw [decide_eq_false (show ¬w.length=1 by omega),Bool.false_or] at q
    have ec:decide ((⟨#[c]⟩:Str)=("0":Str))=decide (c=48):=by
     by_cases y:c=48
     ·have:(⟨#[c]⟩:Str)=("0":Str):=TX.ext_l (by rw [one0,y])
      rw [decide_eq_true this,decide_eq_true y]
     ·have:=chr_ne y
      rw [decide_eq_false (by rw [this];exact id),decide_eq_false y]
    have ec2:(Str.ofString "0")=("0":Str):=rfl
    rw [ec2,ec]
    exact q
theorem wrt_tx {n:Int} (h:TX.Num n):TX.wrt (TX.tx n)=true:=by
 obtain ⟨c,r,e,hc⟩:=h.hd
 unfold TX.wrt
 simp only [Bool.and_eq_true,Bool.or_eq_true,decide_eq_true_eq,List.all_eq_true,Bool.not_eq_true']
 exact ⟨⟨⟨h.len1,h.len⟩,.inr (by rw [e];simpa using hc)⟩,h.dig⟩
theorem sep_is:(" + ":Str)=TX.sep:=rfl
theorem tx_is (n:Int):Str.ofString (toString n)=TX.tx n:=rfl
theorem map_tx (ns:List Int):(List.range ns.length).map (fun i=>D.str (TX.tx (ns.getD i 0)))=(ns.map TX.tx).map D.str:=by
 rw [List.map_map]
 have e:=congrArg (List.map (D.str ∘ TX.tx)) (M.range_getD ns)
 rw [List.map_map] at e
 exact e
theorem join_ok {ns:List Int} (h:Wy ns):JoinOk TX.sep (ns.map TX.tx)=true:=by
 have f:=StrLaws.joinFits (sep:=TX.sep) (texts:=ns.map TX.tx) (B:=40) (fun y hy=>by
  obtain ⟨n,hn,rfl⟩:=List.mem_map.mp hy
  exact (TX.num_of (h.rng n hn).1 (h.rng n hn).2).len) (by
  rw [List.length_map,TX.sep_n]
  have:=h.few
  omega)
 unfold JoinOk
 rw [f];rfl
theorem wt_cons {ns:List Int} (h:ns≠[]):wt ns=Txt.join TX.sep (ns.map TX.tx):=by unfold wt;rw [if_neg h]
theorem wt_join {ns:List Int} (h:ns≠[]):wt ns=Str.join TX.sep (ns.map TX.tx):=by rw [wt_cons h];exact StrLaws.glued_eq_join _ _
def S_show_way:PSp:=fun as R=>∃ns:List Int,as=[.d (.lst (ns.map D.int))]/\Wy ns/\R (.rd (.str (wt ns))) as
theorem ok_show_way (T:Txt mg) (Df:A_show_way K mg):FnOk P w K mg base CX0 1 Df.f Df.fd ["way"] (spOf K S_show_way):=by
 obtain ⟨t_WAY_OF_NONE,c_WAY_OF_NONE⟩:=T.c_WAY_OF_NONE
 refine Df.F.okP sc_show_way (fun as R h=>?_) (fun cdv A outer s H E C as R hK hr h=>?_)
 ·obtain ⟨_,rfl,_⟩:=h;rfl
 have hu:=hr.units
 obtain ⟨ns,rfl,hw,q⟩:=h
 have few:=hw.few
 refine ⟨_,(s_cons (s_if (t_eq hK hu (cb_len hK rfl T.z_len (a_cons (q_var (pv 0)) a_nil)) (q_c pe_int (fun _=>.int _))) (s_one (s_ret (n_val (q_c (pe_glob (v:=.str "0") rfl c_WAY_OF_NONE ⟨_,rfl⟩) (fun _=>.str _))))) s_nil)
    (s_one (s_ret (n_val (m_join hK (q_c pe_str (fun _=>.str _)) (a_cons (q_fz (n_comp (N:=["part","way"]) (k:=1) (CompScope.of (show CompSc (defScope s_show_way) ["way"] _ ["part","way"] 1 from ⟨by rfl,by decide +kernel,by decide +kernel,by rfl,by decide +kernel,by decide +kernel,by decide +kernel,by decide +kernel⟩)) rfl (i_list hK (q_var (pv 0))) (fun Z s H fp=>(gk_name (i:=0) (by decide) (show List.Nodup (["part","way"]:List Str) by decide +kernel) rfl (Or.inl rfl) (Or.inr rfl))) (fun Z s H fp=>ts_nil) (fun Z s H fp=>(cb_strI rfl T.z_str (a_cons (q_var (pv 0)) a_nil))))) a_nil)))))),?_⟩
 refine seq_goK fun kk hkk=>?_
 simp only [R,List.length_map]
 refine ite2 (fun c=>?_) (fun c=>hkk _ ?_)
 ·have e:ns=[]:=List.length_eq_zero_iff.mp (by omega)
  subst e
  exact q
 have ne:ns≠[]:=fun z=>c (by rw [z];rfl)
 rw [wt_cons ne] at q
 simp only [R]
 refine comp_map (n:=(ns.map D.int).length) (item:=fun i=>(ns.map D.int).getD i .non) (p1:=_) (fun Q h=>by simp only [Q];exact h) (by rw [List.length_map];omega) (fun i=>.str (TX.tx (ns.getD i 0))) (fun i R hi h=>?_) ?_
 ·rw [List.length_map] at hi
  rw [getD_ints hi] at h ⊢
  have hn:=TX.num_of (hw.at hi).1 (hw.at hi).2
  simp only [Q]
  exact ⟨hn.lg,h⟩
 rw [List.length_map,map_tx]
 simp only [Q]
 exact ⟨_,rfl,join_ok hw,q⟩
theorem tx_mem {ns:List Int} (h:Wy ns):∀w∈ns.map TX.tx,32 ∉ w.cps.toList:=fun w hw=>by
 obtain ⟨n,hn,rfl⟩:=List.mem_map.mp hw
 exact (TX.num_of (h.rng n hn).1 (h.rng n hn).2).sp
theorem wt_split {ns:List Int} (h:Wy ns) (ne:ns≠[]):Txt.split (wt ns) (" + ":Str)=ns.map TX.tx:=by
 rw [wt_join ne]
 exact TX.split_join (by simpa using ne) (tx_mem h)
theorem wt_len {ns:List Int} (h:Wy ns):(wt ns).length<=100000:=h.tl
theorem wt_ne {ns:List Int} (h:Wy ns) (ne:ns≠[]):(wt ns=("0":Str))=False:=eq_false fun z=>by
 rw [wt_join ne] at z
 have z2:=congrArg (fun s:Str=>s.cps.toList) z
 simp only [one0] at z2
 match ns,ne,h,z2 with
 | [n],_,h,z2=>
  have hn:=TX.num_of (h.rng n List.mem_cons_self).1 (h.rng n List.mem_cons_self).2
  obtain ⟨c,r,e,hc⟩:=hn.hd
  have z3:(TX.tx n).cps.toList=[48]:=z2
  rw [e] at z3
  simp at z3
  exact hc z3.1
 | n::m::r,_,h,z2=>
  have hn:=TX.num_of (h.rng n List.mem_cons_self).1 (h.rng n List.mem_cons_self).2
  obtain ⟨c,r',e,hc⟩:=hn.hd
  have z3:(Str.join TX.sep (TX.tx n::TX.tx m::r.map TX.tx)).cps.toList=[48]:=z2
  rw [TX.join2_l,e] at z3
  simp at z3
def S_read_way:PSp:=fun as R=>∃ns:List Int,as=[.d (.str (wt ns))]/\Wy ns/\R (.ro (ns.map D.int)) as
theorem ok_read_way (T:Txt mg) (Df:A_read_way K mg) (D_is_written:A_is_written K mg):FnOk P w K mg base CX0 2 Df.f Df.fd ["text"] (spOf K S_read_way):=by
 have G_is_written:=ok_is_written (P:=P) (w:=w) (base:=base) T D_is_written
 obtain ⟨t_MOST_FIGURES,c_MOST_FIGURES⟩:=T.c_MOST_FIGURES
 obtain ⟨t_WAY_OF_NONE,c_WAY_OF_NONE⟩:=T.c_WAY_OF_NONE
 refine Df.F.okP sc_read_way (fun as R h=>?_) (fun cdv A outer s H E C as R hK hr h=>?_)
 ·obtain ⟨_,rfl,_⟩:=h;rfl
 have hu:=hr.units
 obtain ⟨ns,rfl,hw,q⟩:=h
 have few:=hw.few
 have wl:=wt_len hw
 refine ⟨_,(s_cons (s_if (t_not (t_val (cb_isi (T:="str") hK (by first|exact .inl rfl|exact .inr (.inl rfl)|exact .inr (.inr (.inl rfl))|exact .inr (.inr (.inr (.inl rfl)))|exact .inr (.inr (.inr (.inr rfl)))) rfl T.z_isinstance (a_cons (q_var (pv 0)) (a_cons (q_c (pe_bltn (v:=.ty "str") rfl T.z_str (by kernel_rfl) rfl) (fun _=>.atom _)) a_nil))))) (s_one s_never) s_nil)
    (s_cons (s_if (t_eq hK hu (q_var (pv 0)) (q_c (pe_glob (v:=.str "0") rfl c_WAY_OF_NONE ⟨_,rfl⟩) (fun _=>.str _))) (s_one (s_ret (n_lst a_nil))) s_nil)
    (s_cons (s_setN (i:=1) sc_read_way.nd rfl (by simp only [L2.QL]) (n_lst a_nil))
    (s_cons (s_for PassesOwn.never rfl (i_list hK (q_fz (n_split hK (q_var (pv 0)) (a_cons (q_c pe_str (fun _=>.str _)) a_nil)))) (g_name (i:=2) sc_read_way.nd rfl (by simp only [L2.QL])) (s_cons (s_if (PW.pt (w_or (t_eq hK hu (q_var (pv 2)) (q_c (pe_glob (v:=.str "0") rfl c_WAY_OF_NONE ⟨_,rfl⟩) (fun _=>.str _))) (w_or1 (t_not (t_val (q_fz (n_call hK D_is_written G_is_written (hr.mono (by first|decide|omega)) (a_cons (q_var (pv 2)) (a_cons (q_c (pe_glob (v:=.int 40) rfl c_MOST_FIGURES ⟨_,rfl⟩) (fun _=>.int _)) a_nil))))))))) (s_one s_never) s_nil)
    (s_cons (s_set (i:=3) sc_read_way.nd rfl (by simp only [L2.QL]) (cb_intS rfl T.z_int (a_cons (q_var (pv 2)) a_nil)))
    (s_cons (s_if (PW.pt (w_and (t_gt (cb_len hK rfl T.z_len (a_cons (q_var (pv 1)) a_nil)) (q_c pe_int (fun _=>.int _))) (w_and1 (t_gt (q_var (pv 3)) (q_ix hK (q_var (pv 1)) (q_neg (q_c pe_int (fun _=>.int _))) (fun _ _=>rfl)))))) (s_one s_never) s_nil)
    (s_one (s_expr (m_append hK (pv 1) (a_cons (q_var (pv 3)) a_nil))))))))
    (s_one (s_retO (i:=1) (pv 1))))))),?_⟩
 refine seq_goK fun kk hkk=>?_
 simp only [R]
 refine hkk _ ?_
 by_cases ne:ns=[]
 ·subst ne
  have e:wt []=("0":Str):=by unfold wt;rw [if_pos rfl]
  refine seq_goK fun kk hkk=>?_
  rw [e] at q ⊢
  simp only [R]
  exact q
 have wn:=wt_ne hw ne
 refine seq_goK fun kk hkk=>?_
 simp only [R,wn]
 refine hkk _ ?_
 refine seq_goK fun kk hkk=>?_
 simp only [R]
 refine hkk _ ?_
 have ws:=wt_split hw ne
 have lws:((ns.map TX.tx).map D.str).length=ns.length:=by rw [List.length_map,List.length_map]
 obtain ⟨I,hI⟩:∃I:Nat->PSt->Prop,I=(fun (i:Nat) p=>∃w2 w3:Option D,p=[some (.d (.str (wt ns))),some (.own ((ns.take i).map D.int)),Option.map Sl.d w2,Option.map Sl.d w3]):=⟨_,rfl⟩
 refine seq_goP (for_q (n:=((ns.map TX.tx).map D.str).length) (item:=fun i=>((ns.map TX.tx).map D.str).getD i .non) (p1:=_) (fun Q h=>by
  simp only [Q,ws]
  exact ⟨by decide +kernel,wl,by rw [List.length_map];omega,h⟩) I (by rw [hI];exact ⟨none,none,rfl⟩) ?_ ?_)
 ·intro i p hi hp
  rw [hI] at hp
  obtain ⟨w2,w3,rfl⟩:=hp
  rw [lws] at hi
  have hn:=TX.num_of (hw.at hi).1 (hw.at hi).2
  have it:((ns.map TX.tx).map D.str).getD i .non=.str (TX.tx (ns.getD i 0)):=by
   rw [List.getD_eq_getElem?_getD,List.getElem?_map,List.getElem?_map,List.getElem?_eq_getElem hi,List.getD_eq_getElem?_getD,List.getElem?_eq_getElem hi];rfl
  rw [it]
  have tn:=tx_ne hn
  have tk:(ns.take i).map D.int++[D.int (ns.getD i 0)]=(ns.take (i+1)).map D.int:=by
   rw [List.take_succ,List.getElem?_eq_getElem hi,List.map_append,List.getD_eq_getElem?_getD,List.getElem?_eq_getElem hi];rfl
  have ltk:((ns.take i).map D.int).length=i:=by rw [List.length_map,List.length_take];omega
  simp only [R]
  refine seq_goK fun kk hkk=>?_
  have wt1:TX.wrt (TX.tx (ns.getD i 0))=true:=wrt_tx hn
  simp only [R,tn,S_is_written,wt1]
  refine ⟨hn.as,by have:=hn.len;omega,hkk _ ?_⟩
  refine seq_goK fun kk hkk=>?_
  simp only [R]
  refine ⟨_,hn.rd,by have:=hn.len;omega,hkk _ ?_⟩
  refine seq_goK fun kk hkk=>?_
  simp only [R,ltk]
  refine ite2 (fun c=>?_) (fun c=>hkk _ ?_)
  ·have la:atI ((ns.take i).map D.int) (-1)=some (.int (ns.getD (i - 1) 0)):=by
    obtain ⟨j,rfl⟩:∃j,i=j+1:=⟨i - 1,by omega⟩
    have tk2:(ns.take (j+1)).map D.int=(ns.take j).map D.int++[D.int (ns.getD j 0)]:=by
     rw [List.take_succ,List.getElem?_eq_getElem (show j<ns.length by omega),List.map_append,List.getD_eq_getElem?_getD,List.getElem?_eq_getElem (show j<ns.length by omega)];rfl
    rw [tk2]
    exact atLast _ _
   simp only [R,la]
   have le:ns.getD i 0<=ns.getD (i - 1) 0:=by
    have:=List.pairwise_iff_getElem.mp hw.fall (i - 1) i (by omega) hi (by omega)
    rw [List.getD_eq_getElem?_getD,List.getElem?_eq_getElem hi,List.getD_eq_getElem?_getD,List.getElem?_eq_getElem (show i - 1<ns.length by omega)]
    exact this
   rw [if_neg (by omega)]
   refine hkk _ ?_
   simp only [Q]
   refine ⟨by rw [ltk];omega,?_⟩
   rw [hI,tk]
   exact ⟨some _,some _,rfl⟩
  ·simp only [Q]
   refine ⟨by rw [ltk];omega,?_⟩
   rw [hI,tk]
   exact ⟨some _,some _,rfl⟩
 ·intro p hp
  rw [hI] at hp
  obtain ⟨w2,w3,rfl⟩:=hp
  rw [lws,List.take_of_length_le (Nat.le_refl _)]
  simp only [Q]
  exact q
end
section
variable {P:Program} {w:World} {K:PySem.W.Frag} {mg:Str->Option Value} {base:Heap}
def BadT (t:Str):Prop:=(t=("0":Str))=False/\∀ns:List Int,(Txt.split t _root_.TX.sep).map _root_.TX.nm=ns.map some->¬ns.Pairwise (fun x y=>y<=x)
def X_read_way (cs:XA):XSp:=fun as Cl=>∃t:Str,as=[.d (.str t)]/\t.cps.all (·<128)=true/\t.length<=100000/\BadT t/\Cl=cs.NoText
theorem okX_read_way (T:Txt mg) {cs:XA} (TX:XT K mg cs) (Df:A_read_way K mg) (D_is_written:A_is_written K mg):FnOk P w K mg base (CXX P w) 2 Df.f Df.fd ["text"] (spX K (X_read_way cs)):=by
 have G_is_written:=ok_is_written (P:=P) (w:=w) (base:=base) T D_is_written
 obtain ⟨t_MOST_FIGURES,c_MOST_FIGURES⟩:=T.c_MOST_FIGURES
 obtain ⟨t_WAY_OF_NONE,c_WAY_OF_NONE⟩:=T.c_WAY_OF_NONE
 refine Df.F.okX sc_read_way (fun as Cl h=>?_) (fun cdv A outer s H E C as Cl XE hK hr h hXE lk lr=>?_)
 ·obtain ⟨_,rfl,_⟩:=h;exact ⟨rfl,alld [_]⟩
 have hu:=hr.units
 obtain ⟨t,rfl,ta,tl,⟨t0,bd⟩,rfl⟩:=h
 subst hXE
 have few:=_root_.TX.words_many t
 refine ⟨_,(s_cons (s_if (t_not (t_val (cb_isi (T:="str") hK (by first|exact .inl rfl|exact .inr (.inl rfl)|exact .inr (.inr (.inl rfl))|exact .inr (.inr (.inr (.inl rfl)))|exact .inr (.inr (.inr (.inr rfl)))) rfl T.z_isinstance (a_cons (q_var (pv 0)) (a_cons (q_c (pe_bltn (v:=.ty "str") rfl T.z_str (by kernel_rfl) rfl) (fun _=>.atom _)) a_nil))))) (s_one (s_raise TX.x_NoText rfl lr (a_cons (q_c pe_str (fun _=>.str _)) a_nil))) s_nil)
    (s_cons (s_if (t_eq hK hu (q_var (pv 0)) (q_c (pe_glob (v:=.str "0") rfl c_WAY_OF_NONE ⟨_,rfl⟩) (fun _=>.str _))) (s_one (s_ret (n_lst a_nil))) s_nil)
    (s_cons (s_setN (i:=1) sc_read_way.nd rfl (by simp only [L2.QL]) (n_lst a_nil))
    (s_cons (s_for PassesOwn.leaving rfl (i_list hK (q_fz (n_split hK (q_var (pv 0)) (a_cons (q_c pe_str (fun _=>.str _)) a_nil)))) (g_name (i:=2) sc_read_way.nd rfl (by simp only [L2.QL])) (s_cons (s_if (PW.pt (w_or (t_eq hK hu (q_var (pv 2)) (q_c (pe_glob (v:=.str "0") rfl c_WAY_OF_NONE ⟨_,rfl⟩) (fun _=>.str _))) (w_or1 (t_not (t_val (q_fz (n_call hK D_is_written G_is_written (hr.mono (by first|decide|omega)) (a_cons (q_var (pv 2)) (a_cons (q_c (pe_glob (v:=.int 40) rfl c_MOST_FIGURES ⟨_,rfl⟩) (fun _=>.int _)) a_nil))))))))) (s_one (s_raise TX.x_NoText rfl lr (a_cons (q_c pe_str (fun _=>.str _)) a_nil))) s_nil)
    (s_cons (s_set (i:=3) sc_read_way.nd rfl (by simp only [L2.QL]) (cb_intS rfl T.z_int (a_cons (q_var (pv 2)) a_nil)))
    (s_cons (s_if (PW.pt (w_and (t_gt (cb_len hK rfl T.z_len (a_cons (q_var (pv 1)) a_nil)) (q_c pe_int (fun _=>.int _))) (w_and1 (t_gt (q_var (pv 3)) (q_ix hK (q_var (pv 1)) (q_neg (q_c pe_int (fun _=>.int _))) (fun _ _=>rfl)))))) (s_one (s_raise TX.x_NoText rfl lr (a_cons (q_c pe_str (fun _=>.str _)) a_nil))) s_nil)
    (s_one (s_expr (m_append hK (pv 1) (a_cons (q_var (pv 3)) a_nil))))))))
    (s_one (s_retO (i:=1) (pv 1))))))),?_⟩
 refine seq_goK fun kk hkk=>?_
 simp only [R]
 refine hkk _ ?_
 refine seq_goK fun kk hkk=>?_
 simp only [R,t0]
 refine hkk _ ?_
 refine seq_goK fun kk hkk=>?_
 simp only [R]
 refine hkk _ ?_
 obtain ⟨I,hI⟩:∃I:Nat->PSt->Prop,I=(fun (i:Nat) p=>∃(ns:List Int) (w2 w3:Option D),p=[some (.d (.str t)),some (.own (ns.map D.int)),Option.map Sl.d w2,Option.map Sl.d w3]/\((Txt.split t _root_.TX.sep).take i).map _root_.TX.nm=ns.map some/\ns.Pairwise (fun x y=>y<=x)):=⟨_,rfl⟩
 refine seq_goP (for_q (n:=((Txt.split t _root_.TX.sep).map D.str).length) (item:=fun i=>((Txt.split t _root_.TX.sep).map D.str).getD i .non) (p1:=_) (fun Q h=>by
  simp only [Q]
  exact ⟨by decide +kernel,tl,by show (Txt.split t _root_.TX.sep).length<=100000;omega,h⟩) I (by rw [hI];exact ⟨[],none,none,rfl,rfl,.nil⟩) ?_ ?_)
 ·intro i p hi hp
  rw [hI] at hp
  obtain ⟨ns,w2,w3,rfl,en,pw⟩:=hp
  rw [List.length_map] at hi
  have ln:ns.length=i:=by
   have:=congrArg List.length en
   rw [List.length_map,List.length_map,List.length_take] at this
   omega
  have it:((Txt.split t _root_.TX.sep).map D.str).getD i .non=.str (Txt.split t _root_.TX.sep)[i]:=by
   rw [List.getD_eq_getElem?_getD,List.getElem?_map,List.getElem?_eq_getElem hi];rfl
  have ew:(Txt.split t _root_.TX.sep).take (i+1)=(Txt.split t _root_.TX.sep).take i++[(Txt.split t _root_.TX.sep)[i]]:=by rw [List.take_succ,List.getElem?_eq_getElem hi];rfl
  have was:=_root_.TX.word_as ta (List.getElem_mem hi)
  rw [it]
  generalize (Txt.split t _root_.TX.sep)[i]=w at *
  by_cases ok:_root_.TX.okW w=true
  ·obtain ⟨n,n0,n1,rfl⟩:=_root_.TX.okW_iff.mp ok
   have hn:=_root_.TX.num_of n0 n1
   have tn:=tx_ne hn
   have wt1:_root_.TX.wrt (_root_.TX.tx n)=true:=wrt_tx hn
   have go:(∀y,ns.getLast? = some y->n<=y)->I (i+1) [some (.d (.str t)),some (.own (ns.map D.int++[.int n])),some (.d (.str (_root_.TX.tx n))),some (.d (.int n))]:=fun hy=>by
    rw [hI]
    refine ⟨ns++[n],some _,some _,by rw [List.map_append];rfl,by rw [ew,List.map_append,en,List.map_append];show _++[_root_.TX.nm (_root_.TX.tx n)]=_;rw [_root_.TX.nm_tx n0 n1];rfl,?_⟩
    refine List.pairwise_append.mpr ⟨pw,List.pairwise_singleton _ _,fun x hx y hy'=>?_⟩
    rw [List.mem_singleton.mp hy']
    have ne:ns≠[]:=List.ne_nil_of_mem hx
    have h1:=hy (ns.getLast ne) (List.getLast?_eq_some_getLast ne)
    have h2:ns.getLast ne<=x:=by
     rw [<-List.dropLast_concat_getLast ne] at hx
     rcases List.mem_append.mp hx with hx|hx
     ·have:=List.pairwise_append.mp (by rw [List.dropLast_concat_getLast ne];exact pw:(ns.dropLast++[ns.getLast ne]).Pairwise (fun x y=>y<=x))
      exact this.2.2 x hx _ (by simp)
     ·rw [List.mem_singleton.mp hx];exact Int.le_refl _
    omega
   simp only [R]
   refine seq_goK fun kk hkk=>?_
   simp only [R,tn,S_is_written,wt1]
   refine ⟨hn.as,by have:=hn.len;omega,hkk _ ?_⟩
   refine seq_goK fun kk hkk=>?_
   simp only [R]
   refine ⟨_,hn.rd,by have:=hn.len;omega,hkk _ ?_⟩
   refine seq_goK fun kk hkk=>?_
   simp only [R,List.length_map]
   refine ite2 (fun c=>?_) (fun c=>hkk _ ?_)
   ·have ne:ns≠[]:=fun z=>by rw [z] at c;simp at c
    have la:atI (ns.map D.int) (-1)=some (.int (ns.getLast ne)):=by
     have:=atLast ((ns.dropLast).map D.int) (D.int (ns.getLast ne))
     rw [<-List.map_singleton,<-List.map_append,List.dropLast_concat_getLast ne] at this
     exact this
    simp only [R,la]
    refine ite2 (fun c2=>trivial) (fun c2=>hkk _ ?_)
    simp only [Q]
    refine ⟨by rw [List.length_map];omega,go fun y hy=>?_⟩
    rw [List.getLast?_eq_some_getLast ne] at hy
    cases hy
    omega
   ·have nl:ns=[]:=List.length_eq_zero_iff.mp (by omega)
    simp only [Q]
    refine ⟨by rw [List.length_map];omega,go fun y hy=>?_⟩
    rw [nl] at hy;cases hy
  ·have okf:_root_.TX.okW w=false:=by cases h:_root_.TX.okW w with
    | true=>exact absurd h ok
    | false=>rfl
   rw [_root_.TX.wrt_ok] at okf
   simp only [R]
   refine seq_goK fun kk hkk=>?_
   by_cases w0:w=("0":Str)
   ·have w0':(w=("0":Str))=True:=eq_true w0
    simp only [R,w0',S_is_written]
   ·have w0':(w=("0":Str))=False:=eq_false w0
    have wf:_root_.TX.wrt w=false:=by
     rw [decide_eq_false w0] at okf
     simpa using okf
    simp only [R,w0',S_is_written,wf]
    exact ⟨was.1,by omega⟩
 ·intro p hp
  rw [hI] at hp
  obtain ⟨ns,w2,w3,rfl,en,pw⟩:=hp
  rw [List.length_map,List.take_of_length_le (Nat.le_refl _)] at en
  exact absurd pw (bd ns en)
end
abbrev s_law_number_in:Stmt:=top 23
abbrev A_law_number_in (K:PySem.W.Frag) (mg:Str->Option Value):=DefAt K mg "_law_number_in" s_law_number_in ["word"]
theorem sc_law_number_in:FnScope ["word"] ["word"] (defScope s_law_number_in):=⟨rfl,rfl,rfl,by decide +kernel,rfl,by decide +kernel,by decide +kernel⟩
section
variable {P:Program} {w:World} {K:PySem.W.Frag} {mg:Str->Option Value} {base:Heap}
def nmD (w:Str):D:=match TX.nm w with|some n=>.int n|none=>.non
def S_law_number_in:PSp:=fun as R=>∃w:Str,as=[.d (.str w)]/\w.cps.all (·<128)=true/\w.length<=100000/\R (.rd (nmD w)) as
theorem nmD_no {w:Str} (h:TX.okW w=false):nmD w=.non:=by unfold nmD;rw [TX.nm_none.mpr h]
theorem nmD_tx {n:Int} (h1:1<=n) (h2:n<10 ^ 40):nmD (TX.tx n)=.int n:=by unfold nmD;rw [TX.nm_tx h1 h2]
theorem ok_no {w:Str} (h:¬1<=w.length\/¬w.length<=40\/w.cps.toList.head? = some 48\/∃c∈w.cps.toList,¬(48<=c/\c<=57)):TX.okW w=false:=by
 cases z:TX.okW w with
 | false=>rfl
 | true=>
  exfalso
  unfold TX.okW at z
  simp only [Bool.and_eq_true,decide_eq_true_eq,List.all_eq_true,Bool.not_eq_true'] at z
  rcases h with h|h|h|⟨c,h1,h2⟩
  ·exact h z.1.1.1
  ·exact h z.1.1.2
  ·have:=z.1.2;rw [h] at this;simp at this
  ·exact h2 (z.2 c h1)
theorem ok_law_number_in (T:Txt mg) (Df:A_law_number_in K mg):FnOk P w K mg base CX0 1 Df.f Df.fd ["word"] (spOf K S_law_number_in):=by
 refine Df.F.okP sc_law_number_in (fun as R h=>?_) (fun cdv A outer s H E C as R hK hr h=>?_)
 ·obtain ⟨_,rfl,_⟩:=h;rfl
 have hu:=hr.units
 obtain ⟨w,rfl,wa,wl,q⟩:=h
 have ef:("0123456789":Str)=TX.figs:=rfl
 have ll:=TX.len_l w
 refine ⟨_,(s_cons (s_if (PW.pt (w_or (t_not (t_chain op_le op_le (q_c pe_int (fun _=>.int _)) (cb_lenS rfl T.z_len (a_cons (q_var (pv 0)) a_nil)) (q_c pe_int (fun _=>.int _)))) (w_or1 (t_eq hK hu (q_ixS (q_var (pv 0)) (q_c pe_int (fun _=>.int _)) (fun _ _=>rfl)) (q_c pe_str (fun _=>.str _)))))) (s_one (s_ret (n_val (q_c pe_non (fun _=>.non))))) s_nil)
    (s_one (s_ret (n_val (q_ifExp (t_val (cb_all hK rfl rfl T.z_all (a_cons (q_fz (n_comp (N:=["figure","word"]) (k:=1) (CompScope.of (show CompSc (defScope s_law_number_in) ["word"] _ ["figure","word"] 1 from ⟨by rfl,by decide +kernel,by decide +kernel,by rfl,by decide +kernel,by decide +kernel,by decide +kernel,by decide +kernel⟩)) rfl (i_str (q_var (pv 0))) (fun Z s H fp=>(gk_name (i:=0) (by decide) (show List.Nodup (["figure","word"]:List Str) by decide +kernel) rfl (Or.inl rfl) (Or.inr rfl))) (fun Z s H fp=>ts_nil) (fun Z s H fp=>(q_inS (q_var (pv 0)) (q_c pe_str (fun _=>.str _)))))) a_nil))) (cb_intS rfl T.z_int (a_cons (q_var (pv 0)) a_nil)) (q_c pe_non (fun _=>.non))))))),?_⟩
 refine seq_goK fun kk hkk=>?_
 cases hl:w.cps.toList with
 | nil=>
  rw [hl] at ll
  have l0:w.length=0:=by simpa using ll.symm
  simp only [R,l0]
  rw [nmD_no (ok_no (.inl (by omega)))] at q
  exact q
 | cons c r=>
  have at0:atI w.cps.toList 0=some c:=by rw [hl];have h:atI (c::r) ((0:Nat):Int)=some c:=atI_nat rfl;exact h
  simp only [R,at0]
  refine ⟨wl,ite2 (fun c1=>ite2 (fun c2=>⟨wl,ite2 (fun c3=>?_) (fun c3=>hkk _ ?_)⟩) (fun c2=>?_)) (fun c1=>?_)⟩
  ·have c48:c=48:=by
    by_cases y:c=48
    ·exact y
    ·have:=chr_ne y
     rw [show (Str.ofString "0")=("0":Str) from rfl] at c3
     rw [this] at c3
     exact c3.elim
   rw [nmD_no (ok_no (.inr (.inr (.inl (by rw [hl,c48];rfl)))))] at q
   exact q
  ·have c48:c≠48:=fun y=>c3 (TX.ext_l (by rw [show (Str.ofString "0")=("0":Str) from rfl,one0,y]))
   simp only [R]
   refine comp_map (n:=w.cps.size) (item:=fun i=>.str ⟨#[w.cps.getD i 0]⟩) (p1:=_) (fun Q h=>by simp only [Q];exact ⟨wa,h⟩) (by show w.length<=100000;omega) (fun i=>.bl (L2.inS ⟨#[w.cps.getD i 0]⟩ TX.figs)) (fun i R hi h=>?_) ?_
   ·simp only [Q,ef]
    exact h
   simp only [Q]
   refine ⟨(List.range w.cps.size).map fun i=>L2.inS ⟨#[w.cps.getD i 0]⟩ TX.figs,by rw [List.map_map];rfl,?_⟩
   refine ite2 (fun c4=>?_) (fun c4=>?_)
   ·have dig:∀c∈w.cps.toList,48<=c/\c<=57:=fun c hc=>by
     obtain ⟨j,hj,ej⟩:=List.getElem_of_mem hc
     rw [Array.length_toList] at hj
     have g:w.cps.getD j 0=c:=by rw [Array.getD_eq_getD_getElem?,Array.getElem?_eq_getElem hj];simpa using ej
     by_cases y:48<=c/\c<=57
     ·exact y
     ·exfalso
      have h1:=(asc_at wa hj).1
      rw [g] at h1
      have h2:=TX.fig_not c h1 y
      rw [List.all_eq_true] at c4
      have h3:=c4 _ (List.mem_map.mpr ⟨j,List.mem_range.mpr hj,rfl⟩)
      rw [g,h2] at h3
      cases h3
    have ok:TX.okW w=true:=by
     unfold TX.okW
     simp only [Bool.and_eq_true,decide_eq_true_eq,List.all_eq_true,Bool.not_eq_true']
     exact ⟨⟨⟨by omega,by omega⟩,by rw [hl];simpa using c48⟩,dig⟩
    obtain ⟨n,n0,n1,rfl⟩:=TX.okW_iff.mp ok
    rw [nmD_tx n0 n1] at q
    exact ⟨n,(TX.num_of n0 n1).rd,by omega,q⟩
   ·have bad:∃c∈w.cps.toList,¬(48<=c/\c<=57):=by
     apply Classical.byContradiction
     intro hn
     apply c4
     rw [List.all_eq_true]
     intro x hx
     obtain ⟨j,hj,rfl⟩:=List.mem_map.mp hx
     rw [List.mem_range] at hj
     have hm:=(asc_at wa hj).2
     by_cases y:48<=w.cps.getD j 0/\w.cps.getD j 0<=57
     ·exact TX.fig_in _ y
     ·exact absurd ⟨_,hm,y⟩ hn
    rw [nmD_no (ok_no (.inr (.inr (.inr bad))))] at q
    exact q
  ·rw [nmD_no (ok_no (.inr (.inl (by omega))))] at q
   exact q
  ·rw [nmD_no (ok_no (.inl (by omega)))] at q
   exact q
end
end K46
namespace M
theorem sorted_uniq:∀{a b:List Int},a.Perm b->a.Pairwise (·<=·)->b.Pairwise (·<=·)->a=b
 | [],b,h,_,_=>by rw [List.nil_perm] at h;exact h.symm
 | x::a,[],h,_,_=>by have:=h.length_eq;simp at this
 | x::a,y::b,h,h1,h2=>by
  rw [List.pairwise_cons] at h1 h2
  have e:x=y:=by
   have m1:x∈y::b:=h.mem_iff.mp List.mem_cons_self
   have m2:y∈x::a:=h.mem_iff.mpr List.mem_cons_self
   have l1:y<=x:=by
    rcases List.mem_cons.mp m1 with e|m
    ·omega
    ·exact h2.1 x m
   have l2:x<=y:=by
    rcases List.mem_cons.mp m2 with e|m
    ·omega
    ·exact h1.1 y m
   omega
  subst e
  rw [sorted_uniq (List.perm_cons x |>.mp h) h1.2 h2.2]
end M
namespace K46
open PySem L2
abbrev s_law_right:Stmt:=top 24
abbrev A_law_right (K:PySem.W.Frag) (mg:Str->Option Value):=DefAt K mg "_law_right" s_law_right ["text"]
theorem sc_law_right:FnScope ["text","found","kinds","e","due"] ["text"] (defScope s_law_right):=⟨rfl,rfl,rfl,by decide +kernel,rfl,by decide +kernel,by decide +kernel⟩
section
variable {P:Program} {w:World} {K:PySem.W.Frag} {mg:Str->Option Value} {base:Heap}
theorem way_or {t:Str} (hl:t.length<=14000):(∃ns,t=wt ns/\Wy ns/\ns.length<=4668/\(t=("0":Str)\/(Txt.split t _root_.TX.sep).map _root_.TX.nm=ns.map some))\/BadT t:=by
 by_cases t0:t=("0":Str)
 ·refine .inl ⟨[],by unfold wt;rw [if_pos rfl];exact t0,⟨by simp,.nil,by simp,?_⟩,by simp,.inl t0⟩
  have:wt []=t:=by unfold wt;rw [if_pos rfl];exact t0.symm
  rw [this];omega
 by_cases g:∃ns:List Int,(Txt.split t _root_.TX.sep).map _root_.TX.nm=ns.map some/\ns.Pairwise (fun x y=>y<=x)
 ·obtain ⟨ns,e,pw⟩:=g
  have few:=_root_.TX.words_many t
  have ln:ns.length=(Txt.split t _root_.TX.sep).length:=by
   have:=congrArg List.length e
   rw [List.length_map,List.length_map] at this
   exact this.symm
  have et:=_root_.TX.text_of e
  have ne:ns≠[]:=fun z=>by
   subst z
   have h0:(Txt.split t _root_.TX.sep)=[]:=List.length_eq_zero_iff.mp (by simpa using ln.symm)
   have h1:=StrLaws.join_split t _root_.TX.sep
   rw [h0] at h1
   have h2:t=Str.join _root_.TX.sep []:=h1.symm
   subst h2
   revert h0
   decide +kernel
  have ew:t=wt ns:=by rw [wt_join ne];exact et
  exact .inl ⟨ns,ew,⟨(_root_.TX.nm_all e).2,pw,by omega,by rw [<-ew];omega⟩,by omega,.inr e⟩
 ·exact .inr ⟨eq_false t0,fun ns e pw=>g ⟨ns,e,pw⟩⟩
theorem wy_show {ns:List Int} (h:Wy ns) (hl:ns.length<=5000):ShowOk (ns.map D.int):=by
 refine show_ints (fun d hd=>?_) hl
 have:=h.rng d hd
 have e:d.toNat<10 ^ 41:=by
  have h1:((10 ^ 41:Nat):Int)=10 ^ 41:=by decide
  have h2:(10:Int) ^ 40<10 ^ 41:=by decide
  have h3:((d.toNat:Nat):Int)=d:=Int.toNat_of_nonneg (by omega)
  refine Int.ofNat_lt.mp ?_
  rw [h1,h3]
  exact Int.lt_trans this.2 h2
 have e2:d.natAbs=d.toNat:=by omega
 rw [e2]
 exact e
def duD (t:Str):List D:=(Txt.split t _root_.TX.sep).map nmD
theorem nmD_or (w:Str):nmD w=.non\/∃n,nmD w=.int n/\_root_.TX.nm w=some n:=by
 unfold nmD
 cases h:_root_.TX.nm w with
 | none=>exact .inl rfl
 | some n=>exact .inr ⟨n,rfl,rfl⟩
theorem dok_du:∀ws:List Str,plains (ws.map nmD)=true/\PyData.canLayAll0 (toPs (ws.map nmD))=true/\PyData.depthAll (toPs (ws.map nmD))=0
 | []=>by simp [plains,toPs,PyData.canLayAll0,PyData.depthAll]
 | w::ws=>by
  obtain ⟨a,b,c⟩:=dok_du ws
  rcases nmD_or w with e|⟨n,e,_⟩
  ·simp [e,plains,L2.plain,toPs,toP,PyData.canLayAll0,PyData.canLay0,PyData.depthAll,PyData.depth,a,b,c]
  ·simp [e,plains,L2.plain,toPs,toP,PyData.canLayAll0,PyData.canLay0,PyData.depthAll,PyData.depth,a,b,c]
theorem dok_duD (t:Str):DOk (.lst (duD t)):=by
 obtain ⟨a,b,c⟩:=dok_du (Txt.split t _root_.TX.sep)
 unfold duD
 exact ⟨by simp only [L2.plain,a],by simp only [toP,PyData.canLay0,b],by simp only [toP,PyData.depth,c];decide⟩
theorem dok_non:DOk .non:=⟨by simp [L2.plain],by simp [toP,PyData.canLay0],by simp [toP,PyData.depth]⟩
theorem dok_b3 (a b c:Bool):DOk (.lst [.bl a,.bl b,.bl c]):=⟨by simp [L2.plain,L2.plains],by simp [toP,toPs,PyData.canLay0,PyData.canLayAll0],by simp [toP,toPs,PyData.depth,PyData.depthAll]⟩
theorem non_int (n:Int):deqv (.int n) .non=false:=by unfold deqv;simp only [toP,PyData.eqv]
theorem non_non:deqv .non .non=true:=deqv_self dok_non
theorem du_any:∀(ws:List Str),((ws.map nmD).any fun z=>deqv z .non)=false->∃ns:List Int,ws.map _root_.TX.nm=ns.map some/\ws.map nmD=ns.map D.int
 | [],_=>⟨[],rfl,rfl⟩
 | w::ws,h=>by
  rw [List.map_cons,List.any_cons,Bool.or_eq_false_iff] at h
  obtain ⟨ns,e1,e2⟩:=du_any ws h.2
  rcases nmD_or w with e|⟨n,e,e'⟩
  ·rw [e,non_non] at h;exact absurd h.1 (by decide)
  ·exact ⟨n::ns,by rw [List.map_cons,List.map_cons,e1,e'],by rw [List.map_cons,List.map_cons,e2,e]⟩
theorem rev_is {ns ns':List Int} (pm:ns'.Perm ns) (so:ns'.Pairwise (·<=·)) (fa:ns.Pairwise (fun x y=>y<=x)):ns'.reverse=ns:=by
 have:=M.sorted_uniq (pm.trans (List.reverse_perm ns).symm) so (List.pairwise_reverse.mpr fa)
 rw [this,List.reverse_reverse]
def S_law_right (cs:XA):PSp:=fun as R=>∃t:Str,as=[.d (.str t)]/\t.cps.all (·<128)=true/\t.length<=14000/\R (.rd (.bl true)) as
theorem ok_law_right (T:Txt mg) {cs:XA} (TX:XT K mg cs) (Df:A_law_right K mg) (D_is_written:A_is_written K mg) (D_read_way:A_read_way K mg) (D_law_number_in:A_law_number_in K mg) (D_show_way:A_show_way K mg):FnOk P w K mg base CX0 3 Df.f Df.fd ["text"] (spOf K (S_law_right cs)):=by
 have G_read_way:=ok_read_way (P:=P) (w:=w) (base:=base) T D_read_way D_is_written
 have G_law_number_in:=ok_law_number_in (P:=P) (w:=w) (base:=base) T D_law_number_in
 have G_show_way:=ok_show_way (P:=P) (w:=w) (base:=base) T D_show_way
 refine Df.F.okP sc_law_right (fun as R h=>?_) (fun cdv A outer s H E C as R hK hr h=>?_)
 ·obtain ⟨_,rfl,_⟩:=h;rfl
 have hu:=hr.units
 have GX_read_way:FnOk P w K mg base (CXX P w) 2 D_read_way.f D_read_way.fd ["text"] (spX K (X_read_way cs)):=okX_read_way T TX D_read_way D_is_written
 obtain ⟨t,rfl,ta,tl,q⟩:=h
 have few:=_root_.TX.words_many t
 refine ⟨_,(s_cons (s_set (i:=1) sc_law_right.nd rfl (by simp only [L2.QL]) (q_c pe_non (fun _=>.non)))
    (s_cons (s_setN (i:=2) sc_law_right.nd rfl (by simp only [L2.QL]) (n_lst a_nil))
    (s_cons (s_try (i:=3) (th:=qSeq (qSetN 2 (nLst (qCons (qIsX C.K (.ref cs.NoText) (.ref cs.NoText) (qCons (qVar 3) (qCons (qC (.atom (.ref cs.NoText))) qNil))) (qCons (qIsX C.K (.ty "ValueError") (.type "ValueError") (qCons (qVar 3) (qCons (qC (.atom (.ty "ValueError"))) qNil))) qNil)))) (qDrop (qApp 2 (qCons (qIsXs C.K (qCons (qVar 3) (qCons (qTup (qCons (qC (.atom (.ref cs.NoBase))) (qCons (qC (.atom (.ref cs.NoCommand))) (qCons (qC (.atom (.ref cs.NoMirror))) (qCons (qC (.atom (.ref cs.NoNumber))) (qCons (qC (.atom (.ref cs.NoPlace))) (qCons (qC (.atom (.ref cs.NoWay))) qNil))))))) qNil))) qNil)))) TX.x_MirrorError sc_law_right.nd rfl rfl (fun F0 pins E XE lk=>(s_one (s_set (i:=1) sc_law_right.nd rfl (by simp only [L2.QL]) (q_fz (n_or (n_call hK D_read_way G_read_way (hr.mono (by first|decide|omega)) (a_cons (q_var (pv 0)) a_nil)) (n_callX hK D_read_way GX_read_way (hr.mono (by first|decide|omega)) lk (a_cons (q_var (pv 0)) a_nil))))))) (fun F0 pins A=>(s_cons (s_setN (i:=2) sc_law_right.nd rfl (by simp only [L2.QL]) (n_lst (a_cons (cb_isX (y:=.ref cs.NoText) (c:=.ref cs.NoText) hK (fun _ h=>h) rfl T.z_isinstance (a_cons (q_var (pv 3)) (a_cons (q_c (pe_glob (v:=.ref cs.NoText) rfl TX.x_NoText.m rfl) (fun _=>.atom _)) a_nil))) (a_cons (cb_isX (y:=.ty "ValueError") (c:=.type "ValueError") hK (fun _ h=>h) rfl T.z_isinstance (a_cons (q_var (pv 3)) (a_cons (q_c (pe_bltn (v:=.ty "ValueError") rfl T.z_ValueError (by kernel_rfl) rfl) (fun _=>.atom _)) a_nil))) a_nil))))
    (s_one (s_expr (m_append hK (pv 2) (a_cons (cb_isXs hK rfl T.z_isinstance (a_cons (q_var (pv 3)) (a_cons (q_tup (a_cons (q_c (pe_glob (v:=.ref cs.NoBase) rfl TX.x_NoBase.m rfl) (fun _=>.atom _)) (a_cons (q_c (pe_glob (v:=.ref cs.NoCommand) rfl TX.x_NoCommand.m rfl) (fun _=>.atom _)) (a_cons (q_c (pe_glob (v:=.ref cs.NoMirror) rfl TX.x_NoMirror.m rfl) (fun _=>.atom _)) (a_cons (q_c (pe_glob (v:=.ref cs.NoNumber) rfl TX.x_NoNumber.m rfl) (fun _=>.atom _)) (a_cons (q_c (pe_glob (v:=.ref cs.NoPlace) rfl TX.x_NoPlace.m rfl) (fun _=>.atom _)) (a_cons (q_c (pe_glob (v:=.ref cs.NoWay) rfl TX.x_NoWay.m rfl) (fun _=>.atom _)) a_nil))))))) a_nil))) a_nil)))))))
    (s_cons (s_set (i:=4) sc_law_right.nd rfl (by simp only [L2.QL]) (q_ifExp (t_eq hK hu (q_var (pv 0)) (q_c pe_str (fun _=>.str _))) (q_fz (n_lst a_nil)) (q_fz (n_comp (N:=["word","text","found","kinds","e","due"]) (k:=1) (CompScope.of (show CompSc (defScope s_law_right) ["text","found","kinds","e","due"] _ ["word","text","found","kinds","e","due"] 1 from ⟨by rfl,by decide +kernel,by decide +kernel,by rfl,by decide +kernel,by decide +kernel,by decide +kernel,by decide +kernel⟩)) rfl (i_list hK (q_fz (n_split hK (q_var (pv 0)) (a_cons (q_c pe_str (fun _=>.str _)) a_nil)))) (fun Z s H fp=>(gk_name (i:=0) (by decide) (show List.Nodup (["word","text","found","kinds","e","due"]:List Str) by decide +kernel) rfl (Or.inl rfl) (Or.inr rfl))) (fun Z s H fp=>ts_nil) (fun Z s H fp=>(q_fz (n_call hK D_law_number_in G_law_number_in (hr.mono (by first|decide|omega)) (a_cons (q_var (pv 0)) a_nil))))))))
    (s_cons (s_if (PW.pt (w_or (t_inD hK hu (q_c pe_non (fun _=>.non)) (q_var (pv 4))) (w_or1 (t_neD hK hu (q_var (pv 4)) (q_fz (n_rev hK (q_fz (n_sortedA hK rfl T.z_sorted (a_cons (q_var (pv 4)) a_nil))))))))) (s_one (s_ret (n_val (q_eqD hK hu (q_var (pv 2)) (q_fz (n_lst (a_cons (q_c pe_bl (fun _=>.bl _)) (a_cons (q_c pe_bl (fun _=>.bl _)) (a_cons (q_c pe_bl (fun _=>.bl _)) a_nil))))))))) s_nil)
    (s_one (s_ret (n_val (q_andV (q_eqD hK hu (q_var (pv 2)) (q_fz (n_lst a_nil))) (q_andV (q_eq hK hu (cb_repr hK hr.gd hu rfl T.z_repr (a_cons (q_var (pv 1)) a_nil)) (cb_repr hK hr.gd hu rfl T.z_repr (a_cons (q_var (pv 4)) a_nil))) (q_one (q_eq hK hu (q_fz (n_call hK D_show_way G_show_way (hr.mono (by first|decide|omega)) (a_cons (q_var (pv 4)) a_nil))) (q_var (pv 0)))))))))))))),?_⟩
 refine seq_goK fun kk hkk=>?_
 simp only [R]
 refine hkk _ ?_
 refine seq_goK fun kk hkk=>?_
 simp only [R]
 refine hkk _ ?_
 refine seq_goK fun kk hkk=>?_
 simp only [R,S_read_way,X_read_way]
 have it:∀i,i<(Txt.split t _root_.TX.sep).length->((Txt.split t _root_.TX.sep).map D.str).getD i .non=.str ((Txt.split t _root_.TX.sep).getD i ⟨#[]⟩):=fun i hi=>by
  rw [List.getD_eq_getElem?_getD,List.getElem?_map,List.getElem?_eq_getElem hi,List.getD_eq_getElem?_getD,List.getElem?_eq_getElem hi];rfl
 have wm:∀i,i<(Txt.split t _root_.TX.sep).length->(Txt.split t _root_.TX.sep).getD i ⟨#[]⟩∈Txt.split t _root_.TX.sep:=fun i hi=>by
  rw [List.getD_eq_getElem?_getD,List.getElem?_eq_getElem hi];exact List.getElem_mem hi
 have rg:(List.range (Txt.split t _root_.TX.sep).length).map (fun i=>nmD ((Txt.split t _root_.TX.sep).getD i ⟨#[]⟩))=duD t:=by
  unfold duD
  refine List.ext_getElem? fun i=>?_
  rw [List.getElem?_map,List.getElem?_map]
  by_cases hi:i<(Txt.split t _root_.TX.sep).length
  ·rw [List.getElem?_range hi,List.getElem?_eq_getElem hi,Option.map_some,Option.map_some,List.getD_eq_getElem?_getD,List.getElem?_eq_getElem hi];rfl
  ·rw [List.getElem?_eq_none (by rw [List.length_range];omega),List.getElem?_eq_none (by omega)];rfl
 rcases way_or tl with ⟨ns,et,hw,nl,hdue⟩|bt
 ·refine .inl ⟨ns,et,hw,hkk _ ?_⟩
  clear hkk kk
  refine seq_cutP (fun p=>p=[some (.d (.str t)),some (.d (.lst (ns.map D.int))),some (.own []),none,some (.d (.lst (ns.map D.int)))]) (fun k hk=>?_) ?_
  ·simp only [R]
   refine ite2 (fun t0=>?_) (fun t0=>?_)
   ·have n0:ns=[]:=by
     by_cases z:ns=[]
     ·exact z
     ·have:=wt_ne hw z
      rw [<-et] at this
      rw [show (Str.ofString "0")=("0":Str) from rfl,this] at t0
      exact t0.elim
    subst n0
    exact hk _ rfl
   ·have e:=hdue.resolve_left t0
    refine comp_map (n:=((Txt.split t _root_.TX.sep).map D.str).length) (item:=fun i=>((Txt.split t _root_.TX.sep).map D.str).getD i .non) (p1:=_) (fun Q h=>by
     simp only [Q]
     exact ⟨by decide +kernel,by omega,by show (Txt.split t _root_.TX.sep).length<=100000;omega,h⟩) (by rw [List.length_map];omega) (fun i=>nmD ((Txt.split t _root_.TX.sep).getD i ⟨#[]⟩)) (fun i R hi h=>?_) ?_
    ·rw [List.length_map] at hi
     rw [it i hi] at h ⊢
     have was:=_root_.TX.word_as ta (wm i hi)
     simp only [Q,S_law_number_in]
     exact ⟨was.1,by omega,h⟩
    rw [List.length_map,rg]
    have ed:duD t=ns.map D.int:=by
     unfold duD
     obtain ⟨a,b⟩:=_root_.TX.nm_all e
     rw [a,List.map_map]
     refine List.map_congr_left fun n hn=>?_
     exact nmD_tx (b n hn).1 (b n hn).2
    rw [ed]
    simp only [Q]
    exact hk _ rfl
  rintro p rfl
  refine seq_goK fun kk hkk=>?_
  simp only [R]
  have nn:((ns.map D.int).any fun z=>deqv z D.non)=false:=by
   rw [List.any_eq_false]
   intro d hd
   obtain ⟨n,_,rfl⟩:=List.mem_map.mp hd
   rw [non_int];decide
  refine ⟨dok_non,dok_ints ns,?_⟩
  rw [nn,if_neg (by decide)]
  refine ⟨ns,rfl,fun ns' pm so=>⟨dok_ints ns,by rw [<-List.map_reverse];exact dok_ints _,?_⟩⟩
  rw [<-List.map_reverse,rev_is pm so hw.fall,deqv_self (dok_ints ns),if_neg (by decide)]
  refine hkk _ ?_
  have so:=wy_show hw (by omega)
  simp only [Q,S_show_way]
  have dn:DOk (D.lst []):=dok_ints []
  refine ⟨dn,dn,?_⟩
  rw [deqv_self dn,if_pos rfl]
  refine ⟨so,so,ns,rfl,hw,?_⟩
  rw [decide_eq_true et.symm]
  exact q
 ·refine .inr ⟨ta,by omega,bt,TX.s_NoText,?_⟩
  refine seq_goK fun kk2 hkk2=>?_
  simp only [R]
  rw [<-hK]
  refine ⟨TX.f_NoText,true,TX.k_NoText_NoText,TX.f_NoText,true,TX.v_NoText,hkk2 _ ?_⟩
  clear hkk2 kk2
  simp only [R]
  have ka:PySem.W.kitAny K (.ref cs.NoText) ([cs.NoBase,cs.NoCommand,cs.NoMirror,cs.NoNumber,cs.NoPlace,cs.NoWay].map Value.ref)=some false:=by
   simp [PySem.W.kitAny,TX.k_NoText_NoBase,TX.k_NoText_NoCommand,TX.k_NoText_NoMirror,TX.k_NoText_NoNumber,TX.k_NoText_NoPlace,TX.k_NoText_NoWay]
  rw [<-hK]
  refine ⟨[cs.NoBase,cs.NoCommand,cs.NoMirror,cs.NoNumber,cs.NoPlace,cs.NoWay],rfl,TX.f_NoText,false,ka,?_⟩
  refine hkk _ ?_
  clear hkk kk
  obtain ⟨t0,bd⟩:=bt
  refine seq_cutP (fun p=>p=[some (.d (.str t)),some (.d .non),some (.own [.bl true,.bl true,.bl false]),none,some (.d (.lst (duD t)))]) (fun k hk=>?_) ?_
  ·simp only [R,t0]
   refine comp_map (n:=((Txt.split t _root_.TX.sep).map D.str).length) (item:=fun i=>((Txt.split t _root_.TX.sep).map D.str).getD i .non) (p1:=_) (fun Q h=>by
    simp only [Q]
    exact ⟨by decide +kernel,by omega,by show (Txt.split t _root_.TX.sep).length<=100000;omega,h⟩) (by rw [List.length_map];omega) (fun i=>nmD ((Txt.split t _root_.TX.sep).getD i ⟨#[]⟩)) (fun i R hi h=>?_) ?_
   ·rw [List.length_map] at hi
    rw [it i hi] at h ⊢
    have was:=_root_.TX.word_as ta (wm i hi)
    simp only [Q,S_law_number_in]
    exact ⟨was.1,by omega,h⟩
   rw [List.length_map,rg]
   simp only [Q]
   exact hk _ rfl
  rintro p rfl
  refine seq_goK fun kk hkk=>?_
  simp only [R]
  have q':R (.rd (.bl (deqv (.lst [.bl true,.bl true,.bl false]) (.lst [.bl true,.bl true,.bl false])))) [.d (.str t)]:=by rw [deqv_self (dok_b3 _ _ _)];exact q
  refine ⟨dok_non,dok_duD t,ite2 (fun c=>⟨dok_b3 _ _ _,dok_b3 _ _ _,q'⟩) (fun c=>?_)⟩
  obtain ⟨ns,e1,e2⟩:=du_any (Txt.split t _root_.TX.sep) (by
   cases h:((Txt.split t _root_.TX.sep).map nmD).any fun z=>deqv z .non with
   | false=>rfl
   | true=>exact absurd h c)
  have e2':duD t=ns.map D.int:=e2
  rw [e2']
  refine ⟨ns,rfl,fun ns' pm so=>⟨dok_ints _,by rw [<-List.map_reverse];exact dok_ints _,?_⟩⟩
  have ne:¬ns=ns'.reverse:=fun z=>bd ns e1 (by rw [z];exact List.pairwise_reverse.mpr so)
  rw [<-List.map_reverse,deqv_ints,decide_eq_false ne,if_pos rfl]
  exact ⟨dok_b3 _ _ _,dok_b3 _ _ _,q'⟩
end
abbrev s_law_take:Stmt:=top 18
abbrev A_law_take (K:PySem.W.Frag) (mg:Str->Option Value):=DefAt K mg "_law_take" s_law_take ["deck","many"]
theorem sc_law_take:FnScope ["deck","many","come","number"] ["deck","many"] (defScope s_law_take):=⟨rfl,rfl,rfl,by decide +kernel,rfl,by decide +kernel,by decide +kernel⟩
abbrev s_law_deck:Stmt:=top 19
abbrev A_law_deck (K:PySem.W.Frag) (mg:Str->Option Value):=DefAt K mg "_law_deck" s_law_deck ["cell","k"]
theorem sc_law_deck:FnScope ["cell","k"] ["cell","k"] (defScope s_law_deck):=⟨rfl,rfl,rfl,by decide +kernel,rfl,by decide +kernel,by decide +kernel⟩
abbrev s_law_text:Stmt:=top 20
abbrev A_law_text (K:PySem.W.Frag) (mg:Str->Option Value):=DefAt K mg "_law_text" s_law_text ["deck"]
theorem sc_law_text:FnScope ["deck","way","k"] ["deck"] (defScope s_law_text):=⟨rfl,rfl,rfl,by decide +kernel,rfl,by decide +kernel,by decide +kernel⟩
section
variable {P:Program} {w:World} {K:PySem.W.Frag} {mg:Str->Option Value} {base:Heap}
def DeckD (m:Int) (h:List D):Prop:=∃a f k:Int,h=[.int a,.int f,.int k]/\0<=k/\k<=m
theorem DeckD.mono {m m':Int} {h:List D} (d:DeckD m h) (l:m<=m'):DeckD m' h:=by
 obtain ⟨a,f,k,e,h1,h2⟩:=d
 exact ⟨a,f,k,e,h1,by omega⟩
def S_law_take:PSp:=fun as R=>∃(h:List D) (m n:Int),as=[.bor h,.d (.int n)]/\DeckD m h/\m<=10 ^ 6/\0<n/\n<1073741824/\∀(g:Int) h',0<=g->g<n->DeckD (m+1) h'->R (.rd (.int g)) [.bor h',.d (.int n)]
theorem ok_law_take (T:Txt mg) (Df:A_law_take K mg):FnOk P w K mg base CX0 1 Df.f Df.fd ["deck","many"] (spOf K S_law_take):=by
 refine Df.F.okP sc_law_take (fun as R h=>?_) (fun cdv A outer s H E C as R hK hr h=>?_)
 ·obtain ⟨_,_,_,rfl,_⟩:=h;rfl
 have hu:=hr.units
 obtain ⟨h,m,n,rfl,⟨a,f,k,rfl,k0,k1⟩,m6,n0,n1,q⟩:=h
 refine ⟨_,(s_cons (s_if (t_eq hK hu (q_ix hK (q_var (pv 0)) (q_c pe_int (fun _=>.int _)) (fun _ _=>rfl)) (q_c pe_int (fun _=>.int _))) (s_cons (s_set (i:=2) sc_law_take.nd rfl (by simp only [L2.QL]) (q_mod (q_ix hK (q_var (pv 0)) (q_c pe_int (fun _=>.int _)) (fun _ _=>rfl)) (q_var (pv 1))))
    (s_cons (s_setI (i:=0) (q_fdiv (q_ix hK (q_var (pv 0)) (q_c pe_int (fun _=>.int _)) (fun _ _=>rfl)) (q_var (pv 1))) (pv 0) (q_c pe_int (fun _=>.int _)))
    (s_one (s_ret (n_val (q_var (pv 2))))))) s_nil)
    (s_cons (s_setI (i:=0) (q_add (q_ix hK (q_var (pv 0)) (q_c pe_int (fun _=>.int _)) (fun _ _=>rfl)) (q_c pe_int (fun _=>.int _))) (pv 0) (q_c pe_int (fun _=>.int _)))
    (s_cons (s_set (i:=3) sc_law_take.nd rfl (by simp only [L2.QL]) (q_mul (q_mod (q_ix hK (q_var (pv 0)) (q_c pe_int (fun _=>.int _)) (fun _ _=>rfl)) (q_c pe_int (fun _=>.int _))) (q_add (q_mul (q_ix hK (q_var (pv 0)) (q_c pe_int (fun _=>.int _)) (fun _ _=>rfl)) (q_ix hK (q_var (pv 0)) (q_c pe_int (fun _=>.int _)) (fun _ _=>rfl))) (q_c pe_int (fun _=>.int _)))))
    (s_cons (s_set (i:=3) sc_law_take.nd rfl (by simp only [L2.QL]) (q_mod (q_add (q_add (q_var (pv 3)) (q_ix hK (q_var (pv 0)) (q_c pe_int (fun _=>.int _)) (fun _ _=>rfl))) (q_c pe_int (fun _=>.int _))) (q_c pe_int (fun _=>.int _))))
    (s_cons (s_set (i:=3) sc_law_take.nd rfl (by simp only [L2.QL]) (q_mod (q_mul (q_var (pv 3)) (q_var (pv 3))) (q_c pe_int (fun _=>.int _))))
    (s_one (s_ret (n_val (q_mod (q_fdiv (q_mod (q_mul (q_var (pv 3)) (q_c pe_int (fun _=>.int _))) (q_c pe_int (fun _=>.int _))) (q_c pe_int (fun _=>.int _))) (q_var (pv 1))))))))))),?_⟩
 refine seq_goK fun kk hkk=>?_
 simp only [R]
 refine ite2 (fun c=>?_) (fun c=>hkk _ ?_)
 ·refine seq_goK fun kk hkk=>?_
  simp only [R]
  refine ⟨n0,hkk _ ?_⟩
  refine seq_goK fun kk hkk=>?_
  simp only [R]
  refine ⟨n0,.inl (by omega),0,by unfold ixN;simp,hkk _ ?_⟩
  simp only [Q]
  exact q _ _ (Int.emod_nonneg _ (by omega)) (Int.emod_lt_of_pos _ n0) ⟨_,_,_,rfl,k0,by omega⟩
 refine seq_goK fun kk hkk=>?_
 simp only [R]
 refine ⟨2,by unfold ixN;simp,hkk _ ?_⟩
 refine seq_goK fun kk hkk=>?_
 simp only [R]
 have e0:=Int.emod_nonneg a (show (2147483647:Int)≠0 by decide)
 have e1:=Int.emod_lt_of_pos a (show (0:Int)<2147483647 by decide)
 generalize a % 2147483647=x at *
 refine ⟨.inl ⟨by omega,by omega⟩,.inl ⟨by omega,by omega⟩,hkk _ ?_⟩
 refine seq_goK fun kk hkk=>?_
 simp only [R]
 refine hkk _ ?_
 have f0:=Int.emod_nonneg (x * ((k+1) * (k+1)+48271)+(k+1)+7) (show (2147483629:Int)≠0 by decide)
 have f1:=Int.emod_lt_of_pos (x * ((k+1) * (k+1)+48271)+(k+1)+7) (show (0:Int)<2147483629 by decide)
 generalize (x * ((k+1) * (k+1)+48271)+(k+1)+7) % 2147483629=y at *
 refine seq_goK fun kk hkk=>?_
 simp only [R]
 refine ⟨.inl ⟨by omega,by omega⟩,hkk _ ?_⟩
 have g0:=Int.emod_nonneg (y * y) (show (2147483587:Int)≠0 by decide)
 have g1:=Int.emod_lt_of_pos (y * y) (show (0:Int)<2147483587 by decide)
 generalize (y * y) % 2147483587=z at *
 simp only [Q]
 refine ⟨n0,?_⟩
 exact q _ _ (Int.emod_nonneg _ (by omega)) (Int.emod_lt_of_pos _ n0) ⟨_,_,_,rfl,by omega,by omega⟩
def S_law_deck:PSp:=fun as R=>∃c:Int,as=[.d (.int c),.d (.int 5)]/\∀h,DeckD 5 h->R (.ro h) as
theorem ok_law_deck (T:Txt mg) (Df:A_law_deck K mg):FnOk P w K mg base CX0 1 Df.f Df.fd ["cell","k"] (spOf K S_law_deck):=by
 refine Df.F.okP sc_law_deck (fun as R h=>?_) (fun cdv A outer s H E C as R hK hr h=>?_)
 ·obtain ⟨_,rfl,_⟩:=h;rfl
 have hu:=hr.units
 obtain ⟨c,rfl,q⟩:=h
 refine ⟨_,(s_cons (s_if (t_ge (q_var (pv 0)) (q_pow (q_c pe_int (fun _=>.int _)) (q_c pe_int (fun _=>.int _)))) (s_one (s_ret (n_lst (a_cons (q_sub (q_var (pv 0)) (q_pow (q_c pe_int (fun _=>.int _)) (q_c pe_int (fun _=>.int _)))) (a_cons (q_c pe_int (fun _=>.int _)) (a_cons (q_var (pv 1)) a_nil)))))) s_nil)
    (s_one (s_ret (n_lst (a_cons (q_var (pv 0)) (a_cons (q_c pe_int (fun _=>.int _)) (a_cons (q_var (pv 1)) a_nil))))))),?_⟩;simp only [Q,and_assoc]
 refine ite2 (fun c=>?_) (fun c=>?_)
 ·exact q _ ⟨_,_,_,rfl,by decide,by decide⟩
 ·exact q _ ⟨_,_,_,rfl,by decide,by decide⟩
theorem rev_fall {ns:List Int} (h:ns.Pairwise (·<=·)):ns.reverse.Pairwise (fun x y=>y<=x):=List.pairwise_reverse.mpr h
theorem wt_small {ns:List Int} (h:∀n∈ns,1<=n/\n<=1000000000) (hf:ns.length<=99) (hp:ns.Pairwise (fun x y=>y<=x)):Wy ns/\(wt ns).length<=1300:=by
 have l:(wt ns).length<=1300:=by
  by_cases ne:ns=[]
  ·subst ne
   have e:wt []=("0":Str):=by unfold wt;rw [if_pos rfl]
   rw [e];decide +kernel
  ·rw [wt_join ne]
   have h1:=StrLaws.join_length_le TX.sep (ns.map TX.tx)
   have h2:=StrLaws.sumLen_le (B:=10) (ns.map TX.tx) (fun y hy=>by
    obtain ⟨n,hn,rfl⟩:=List.mem_map.mp hy
    have:=h n hn
    obtain ⟨m,rfl⟩:=Int.eq_ofNat_of_zero_le (show 0<=n by omega)
    rw [<-TX.len_l,TX.tx_l,List.length_map]
    exact TX.dig_len 10 m (by decide) (by omega))
   rw [List.length_map,TX.sep_n] at h1
   rw [List.length_map] at h2
   omega
 exact ⟨⟨fun n hn=>⟨(h n hn).1,Int.lt_of_le_of_lt (h n hn).2 (by decide)⟩,hp,by omega,by omega⟩,l⟩
theorem comp_c {k:Nat} {ti:TIQ} {g:TGQ} {tt:TTQ} {te:TQ} {Q:Rt->PSt->Prop} {p:PSt} (h:ti p fun n item p1=>nComp k (fun _ Q=>Q n item p1) g tt te p1 Q):nComp k ti g tt te p Q:=h
def S_law_text:PSp:=fun as R=>∃(h:List D) (m:Int),as=[.bor h]/\DeckD m h/\m<=1000/\∀(ns:List Int) h',Wy ns->(wt ns).length<=1300->DeckD (m+300) h'->R (.rd (.str (wt ns))) [.bor h']
theorem ok_law_text (T:Txt mg) (Df:A_law_text K mg) (D_law_take:A_law_take K mg):FnOk P w K mg base CX0 2 Df.f Df.fd ["deck"] (spOf K S_law_text):=by
 have G_law_take:=ok_law_take (P:=P) (w:=w) (base:=base) T D_law_take
 refine Df.F.okP sc_law_text (fun as R h=>?_) (fun cdv A outer s H E C as R hK hr h=>?_)
 ·obtain ⟨_,_,rfl,_⟩:=h;rfl
 have hu:=hr.units
 obtain ⟨h,m,rfl,hd,m6,q⟩:=h
 refine ⟨_,(s_cons (s_setN (i:=1) sc_law_text.nd rfl (by simp only [L2.QL]) (n_lst a_nil))
    (s_cons (s_for PassesOwn.never rfl (i_range1 rfl T.z_range (a_cons (q_fz (n_call hK D_law_take G_law_take (hr.mono (by first|decide|omega)) (a_cons (q_var (pv 0)) (a_cons (q_ix hK (q_fz (n_lst (a_cons (q_c pe_int (fun _=>.int _)) (a_cons (q_c pe_int (fun _=>.int _)) a_nil)))) (cb_int rfl T.z_int (a_cons (q_eq hK hu (q_fz (n_call hK D_law_take G_law_take (hr.mono (by first|decide|omega)) (a_cons (q_var (pv 0)) (a_cons (q_c pe_int (fun _=>.int _)) a_nil)))) (q_c pe_int (fun _=>.int _))) a_nil)) (fun _ _=>rfl)) a_nil)))) a_nil)) (g_name (i:=2) sc_law_text.nd rfl (by simp only [L2.QL])) (s_one (s_expr (m_append hK (pv 1) (a_cons (q_add (q_c pe_int (fun _=>.int _)) (q_fz (n_call hK D_law_take G_law_take (hr.mono (by first|decide|omega)) (a_cons (q_var (pv 0)) (a_cons (q_ix hK (q_fz (n_lst (a_cons (q_c pe_int (fun _=>.int _)) (a_cons (q_c pe_int (fun _=>.int _)) (a_cons (q_pow (q_c pe_int (fun _=>.int _)) (q_c pe_int (fun _=>.int _))) a_nil))))) (q_fz (n_call hK D_law_take G_law_take (hr.mono (by first|decide|omega)) (a_cons (q_var (pv 0)) (a_cons (q_c pe_int (fun _=>.int _)) a_nil)))) (fun _ _=>rfl)) a_nil))))) a_nil)))))
    (s_one (s_ret (n_val (q_ifExp (t_eq hK hu (q_var (pv 1)) (q_fz (n_lst a_nil))) (q_c pe_str (fun _=>.str _)) (m_join hK (q_c pe_str (fun _=>.str _)) (a_cons (q_fz (n_comp (N:=["number","deck","way","k"]) (k:=1) (CompScope.of (show CompSc (defScope s_law_text) ["deck","way","k"] _ ["number","deck","way","k"] 1 from ⟨by rfl,by decide +kernel,by decide +kernel,by rfl,by decide +kernel,by decide +kernel,by decide +kernel,by decide +kernel⟩)) rfl (i_list hK (q_fz (n_rev hK (q_fz (n_sortedA hK rfl T.z_sorted (a_cons (q_var (pv 1)) a_nil)))))) (fun Z s H fp=>(gk_name (i:=0) (by decide) (show List.Nodup (["number","deck","way","k"]:List Str) by decide +kernel) rfl (Or.inl rfl) (Or.inr rfl))) (fun Z s H fp=>ts_nil) (fun Z s H fp=>(cb_strI rfl T.z_str (a_cons (q_var (pv 0)) a_nil))))) a_nil)))))))),?_⟩
 refine seq_goK fun kk hkk=>?_
 simp only [R]
 refine hkk _ ?_
 refine seq_goK fun kk hkk=>?_
 refine for_i ?_
 simp only [R,S_law_take]
 refine ⟨m,hd,by omega,fun g h1 g0 g1 hh1=>?_⟩
 obtain ⟨mo,emo,mo0,mo1⟩:∃mo:Int,atI [D.int 6,D.int 100] (if g=0 then 1 else 0)=some (.int mo)/\0<mo/\mo<=100:=by
  by_cases e:g=0
  ·rw [if_pos e];exact ⟨100,rfl,by decide,by decide⟩
  ·rw [if_neg e];exact ⟨6,rfl,by decide,by decide⟩
 refine ⟨_,emo,?_⟩
 simp only [R]
 refine ⟨_,hh1,by omega,mo0,by omega,fun l h2 l0 l1 hh2=>⟨by omega,by omega,?_⟩⟩
 obtain ⟨I,hI⟩:∃I:Nat->PSt->Prop,I=(fun (i:Nat) p=>∃(h:List D) (ns:List Int) (w2:Option D),DeckD (m+2+2 * i) h/\ns.length=i/\(∀n∈ns,(1:Int)<=n/\n<=1000000000)/\p=[some (.bor h),some (.own (ns.map D.int)),Option.map Sl.d w2]):=⟨_,rfl⟩
 refine ⟨I,by rw [hI];exact ⟨h2,[],none,hh2.mono (by omega),rfl,fun n hn=>absurd hn List.not_mem_nil,rfl⟩,?_,?_⟩
 ·intro i p hi hp
  rw [hI] at hp
  obtain ⟨h3,ns,w2,hh3,ln,rg,rfl⟩:=hp
  simp only [Q,S_law_take]
  refine ⟨_,hh3,by omega,fun t h4 t0 t1 hh4=>?_⟩
  obtain ⟨mo,emo,mo0,mo1⟩:∃mo:Int,atI [D.int 3,D.int 100,D.int 1000000000] t=some (.int mo)/\1<=mo/\mo<=1000000000:=by
   have:t=0\/t=1\/t=2:=by omega
   rcases this with rfl|rfl|rfl
   ·exact ⟨3,rfl,by decide,by decide⟩
   ·exact ⟨100,rfl,by decide,by decide⟩
   ·exact ⟨1000000000,rfl,by decide,by decide⟩
  refine ⟨_,emo,?_⟩
  simp only [Q]
  refine ⟨_,hh4,by omega,by omega,by omega,fun n h5 n0 n1 hh5=>⟨by rw [List.length_map];omega,?_⟩⟩
  rw [hI]
  refine ⟨h5,ns++[1+n],some (.int i),hh5.mono (by push_cast;omega),by rw [List.length_append,List.length_singleton,ln],fun d hd=>?_,by rw [List.map_append];rfl⟩
  rcases List.mem_append.mp hd with hd|hd
  ·exact rg d hd
  ·rw [List.mem_singleton] at hd
   subst hd
   exact ⟨by omega,by omega⟩
 ·intro p hp
  rw [hI] at hp
  obtain ⟨h3,ns,w2,hh3,ln,rg,rfl⟩:=hp
  refine hkk _ ?_
  simp only [R]
  refine ite2 (fun c=>?_) (fun c=>?_)
  ·have e:("0":Str)=wt []:=by unfold wt;rw [if_pos rfl]
   rw [show (Str.ofString "0")=("0":Str) from rfl,e]
   obtain ⟨y1,y2⟩:=wt_small (ns:=[]) (by simp) (by simp) .nil
   exact q _ _ y1 y2 (hh3.mono (by omega))
  ·refine comp_c ?_
   simp only [R]
   refine ⟨ns,rfl,fun ns' pm so=>?_⟩
   rw [<-List.map_reverse]
   have lr:ns'.reverse.length=ns.length:=by rw [List.length_reverse,pm.length_eq]
   obtain ⟨y1,y2⟩:=wt_small (ns:=ns'.reverse) (fun n hn=>rg n (pm.mem_iff.mp (List.mem_reverse.mp hn))) (by omega) (rev_fall so)
   have ne:ns'.reverse≠[]:=fun z=>c (by
    rw [z] at lr
    have:ns=[]:=List.length_eq_zero_iff.mp (by simpa using lr.symm)
    rw [this])
   generalize ns'.reverse=ms at *
   refine comp_map (n:=(ms.map D.int).length) (item:=fun i=>(ms.map D.int).getD i .non) (p1:=_) (fun Q h=>h) (by rw [List.length_map];omega) (fun i=>.str (TX.tx (ms.getD i 0))) (fun i R hi h=>?_) ?_
   ·rw [List.length_map] at hi
    rw [getD_ints hi] at h ⊢
    have hn:=TX.num_of (y1.at hi).1 (y1.at hi).2
    simp only [Q]
    exact ⟨hn.lg,h⟩
   rw [List.length_map,map_tx]
   have q':=q ms h3 y1 y2 (hh3.mono (by omega))
   rw [wt_cons ne] at q'
   exact ⟨_,rfl,join_ok y1,q'⟩
end
abbrev s_law_bad:Stmt:=top 21
abbrev A_law_bad (K:PySem.W.Frag) (mg:Str->Option Value):=DefAt K mg "_law_bad" s_law_bad ["deck"]
theorem sc_law_bad:FnScope ["deck","some","odd"] ["deck"] (defScope s_law_bad):=⟨rfl,rfl,rfl,by decide +kernel,rfl,by decide +kernel,by decide +kernel⟩
section
variable {P:Program} {w:World} {K:PySem.W.Frag} {mg:Str->Option Value} {base:Heap}
def AT (m:Nat) (t:Str):Prop:=t.cps.all (·<128)=true/\t.length<=m
def atB (m:Nat) (t:Str):Bool:=t.cps.all (·<128) && decide (t.length<=m)
theorem AT.ofB {m:Nat} {t:Str} (h:atB m t=true):AT m t:=by
 unfold atB at h
 rw [Bool.and_eq_true,decide_eq_true_eq] at h
 exact h
theorem AT.mono {m n:Nat} {t:Str} (h:AT m t) (l:m<=n):AT n t:=⟨h.1,Nat.le_trans h.2 l⟩
theorem AT.mem {m:Nat} {t:Str} (h:AT m t):∀c∈t.cps.toList,c<128:=fun c hc=>by
 have:=h.1
 rw [<-Array.all_toList,List.all_eq_true] at this
 exact of_decide_eq_true (this c hc)
theorem AT.of {m:Nat} {t:Str} (h:∀c∈t.cps.toList,c<128) (l:t.length<=m):AT m t:=by
 refine ⟨?_,l⟩
 rw [<-Array.all_toList,List.all_eq_true]
 exact fun c hc=>decide_eq_true (h c hc)
theorem AT.cat {m n:Nat} {t u:Str} (h:AT m t) (g:AT n u):AT (m+n) (t++u):=by
 have e:=TX.app_l t u
 refine .of (fun c hc=>?_) ?_
 ·rw [e] at hc
  rcases List.mem_append.mp hc with hc|hc
  ·exact h.mem c hc
  ·exact g.mem c hc
 ·have:=congrArg List.length e
  rw [TX.len_l,List.length_append,TX.len_l,TX.len_l] at this
  have:=h.2
  have:=g.2
  omega
theorem AT.cut {m:Nat} {t:Str} (h:AT m t) (l u:Option Int):AT m (Txt.slice t l u):=by
 refine .of (fun c hc=>?_) (Nat.le_trans (Txt.slice_le t l u) h.2)
 unfold Txt.slice at hc
 split at hc
 ·exact h.mem c hc
 ·rw [List.toList_toArray] at hc
  obtain ⟨i,_,e⟩:=List.mem_filterMap.mp hc
  refine h.mem c ?_
  rw [<-Array.getElem?_toList] at e
  exact List.mem_of_getElem? e
theorem AT.sign {c:Nat} (h:c<128):AT 1 ⟨#[c]⟩:=.of (fun x hx=>by simp at hx;omega) (Nat.le_refl 1)
def TL (L:List D):Prop:=∀d∈L,∃t,d=.str t/\AT 1000 t
theorem TL.nil:TL []:=fun d h=>absurd h List.not_mem_nil
theorem TL.cons {t:Str} {L:List D} (h:AT 1000 t) (g:TL L):TL (.str t::L):=fun d hd=>by
 rcases List.mem_cons.mp hd with rfl|hd
 ·exact ⟨t,rfl,h⟩
 ·exact g d hd
theorem TL.app {L M:List D} (h:TL L) (g:TL M):TL (L++M):=fun d hd=>by
 rcases List.mem_append.mp hd with hd|hd
 ·exact h d hd
 ·exact g d hd
theorem TL.at {L:List D} (h:TL L) {g:Int} (g0:0<=g) (g1:g<L.length):∃t,atI L g=some (.str t)/\AT 1000 t:=by
 obtain ⟨k,rfl⟩:=Int.eq_ofNat_of_zero_le g0
 have hk:k<L.length:=by omega
 obtain ⟨t,e,a⟩:=h L[k] (List.getElem_mem hk)
 exact ⟨t,by rw [atI_nat (List.getElem?_eq_getElem hk),e],a⟩
theorem sign_at {t:Str} {m:Nat} (h:AT m t) {g:Int} (g0:0<=g) (g1:g<t.length):∃c,atI t.cps.toList g=some c/\c<128:=by
 obtain ⟨k,rfl⟩:=Int.eq_ofNat_of_zero_le g0
 have hk:k<t.cps.toList.length:=by rw [TX.len_l];omega
 exact ⟨t.cps.toList[k],atI_nat (List.getElem?_eq_getElem hk),h.mem _ (List.getElem_mem hk)⟩
def S_law_bad:PSp:=fun as R=>∃(h:List D) (m:Int),as=[.bor h]/\DeckD m h/\m<=2000/\∀(t:Str) h',AT 1000 t->DeckD (m+3) h'->R (.rd (.str t)) [.bor h']
theorem ok_law_bad (T:Txt mg) (Df:A_law_bad K mg) (D_law_take:A_law_take K mg):FnOk P w K mg base CX0 2 Df.f Df.fd ["deck"] (spOf K S_law_bad):=by
 have G_law_take:=ok_law_take (P:=P) (w:=w) (base:=base) T D_law_take
 refine Df.F.okP sc_law_bad (fun as R h=>?_) (fun cdv A outer s H E C as R hK hr h=>?_)
 ·obtain ⟨_,_,rfl,_⟩:=h;rfl
 have hu:=hr.units
 obtain ⟨h,m,rfl,hd,m6,q⟩:=h
 refine ⟨_,(@s_cons _ _ _ _ _ _ (@s_setN _ _ _ _ 1 _ _ _ sc_law_bad.nd rfl (by simp only [L2.QL]) (@n_lst _ _ _ _ _ (@a_cons _ _ _ _ _ _ (@q_c _ _ _ _ _ pe_str (fun _=>.str _)) (@a_cons _ _ _ _ _ _ (@q_c _ _ _ _ _ pe_str (fun _=>.str _)) (@a_cons _ _ _ _ _ _ (@q_c _ _ _ _ _ pe_str (fun _=>.str _)) (@a_cons _ _ _ _ _ _ (@q_c _ _ _ _ _ pe_str (fun _=>.str _)) (@a_cons _ _ _ _ _ _ (@q_c _ _ _ _ _ pe_str (fun _=>.str _)) (@a_cons _ _ _ _ _ _ (@q_c _ _ _ _ _ pe_str (fun _=>.str _)) (@a_cons _ _ _ _ _ _ (@q_c _ _ _ _ _ pe_str (fun _=>.str _)) (@a_cons _ _ _ _ _ _ (@q_c _ _ _ _ _ pe_str (fun _=>.str _)) (@a_cons _ _ _ _ _ _ (@q_c _ _ _ _ _ pe_str (fun _=>.str _)) (@a_cons _ _ _ _ _ _ (@q_c _ _ _ _ _ pe_str (fun _=>.str _)) (@a_cons _ _ _ _ _ _ (@q_c _ _ _ _ _ pe_str (fun _=>.str _)) (@a_cons _ _ _ _ _ _ (@q_c _ _ _ _ _ pe_str (fun _=>.str _)) (@a_cons _ _ _ _ _ _ (@q_c _ _ _ _ _ pe_str (fun _=>.str _)) (@a_cons _ _ _ _ _ _ (@q_c _ _ _ _ _ pe_str (fun _=>.str _)) (@a_cons _ _ _ _ _ _ (@q_c _ _ _ _ _ pe_str (fun _=>.str _)) a_nil (by rfl)) (by rfl)) (by rfl)) (by rfl)) (by rfl)) (by rfl)) (by rfl)) (by rfl)) (by rfl)) (by rfl)) (by rfl)) (by rfl)) (by rfl)) (by rfl)) (by rfl))) (by rfl) (by first|exact .inl rfl|exact .inr rfl|assumption))
    (s_cons (s_setN (i:=1) sc_law_bad.nd rfl (by simp only [L2.QL]) (n_cat (q_var (pv 1)) (q_fz (n_lst (a_cons (q_mulS (q_c pe_str (fun _=>.str _)) (q_c pe_int (fun _=>.int _))) (a_cons (q_mulS (q_c pe_str (fun _=>.str _)) (q_c pe_int (fun _=>.int _))) (a_cons (q_addS (q_c pe_str (fun _=>.str _)) (q_mulS (q_c pe_str (fun _=>.str _)) (q_c pe_int (fun _=>.int _)))) (a_cons (q_addS (q_c pe_str (fun _=>.str _)) (q_mulS (q_c pe_str (fun _=>.str _)) (q_c pe_int (fun _=>.int _)))) (a_cons (q_mulS (q_c pe_str (fun _=>.str _)) (q_c pe_int (fun _=>.int _))) (a_cons (q_c pe_str (fun _=>.str _)) (a_cons (q_c pe_str (fun _=>.str _)) a_nil)))))))))))
    (s_cons (s_setN (i:=1) sc_law_bad.nd rfl (by simp only [L2.QL]) (n_cat (q_var (pv 1)) (q_fz (n_lst (a_cons (q_c pe_str (fun _=>.str _)) (a_cons (q_c pe_str (fun _=>.str _)) a_nil))))))
    (s_cons (s_set (i:=2) sc_law_bad.nd rfl (by simp only [L2.QL]) (q_c pe_str (fun _=>.str _)))
    (s_cons (s_expr (m_append hK (pv 1) (a_cons (q_ixS (q_var (pv 2)) (q_fz (n_call hK D_law_take G_law_take (hr.mono (by first|decide|omega)) (a_cons (q_var (pv 0)) (a_cons (cb_lenS rfl T.z_len (a_cons (q_var (pv 2)) a_nil)) a_nil)))) (fun _ _=>rfl)) a_nil)))
    (s_cons (s_expr (m_append hK (pv 1) (a_cons (q_addS (q_c pe_str (fun _=>.str _)) (q_ixS (q_var (pv 2)) (q_fz (n_call hK D_law_take G_law_take (hr.mono (by first|decide|omega)) (a_cons (q_var (pv 0)) (a_cons (cb_lenS rfl T.z_len (a_cons (q_var (pv 2)) a_nil)) a_nil)))) (fun _ _=>rfl))) a_nil)))
    (s_one (s_ret (n_val (q_ix hK (q_var (pv 1)) (q_fz (n_call hK D_law_take G_law_take (hr.mono (by first|decide|omega)) (a_cons (q_var (pv 0)) (a_cons (cb_len hK rfl T.z_len (a_cons (q_var (pv 1)) a_nil)) a_nil)))) (fun _ _=>rfl))))))))))),?_⟩
 refine seq_cutP (fun p=>∃L:List D,TL L/\L.length=15/\p=[some (.bor h),some (.own L),none]) (fun k hk=>?_) ?_
 ·simp only [R]
  refine hk _ ⟨_,?_,rfl,rfl⟩
  repeat' (first|exact TL.nil|refine TL.cons (AT.ofB (by decide +kernel)) ?_)
 rintro p ⟨L,tL,lL,rfl⟩
 refine seq_cutP (fun p=>∃L:List D,TL L/\L.length=22/\p=[some (.bor h),some (.own L),none]) (fun k hk=>?_) ?_
 ·simp only [R]
  refine ⟨by unfold MulOk;decide +kernel,by unfold MulOk;decide +kernel,by unfold MulOk;decide +kernel,by decide +kernel,by unfold MulOk;decide +kernel,by decide +kernel,by unfold MulOk;decide +kernel,by omega,hk _ ⟨_,tL.app ?_,by rw [List.length_append,lL];rfl,rfl⟩⟩
  repeat' (first|exact TL.nil|refine TL.cons (AT.ofB (by decide +kernel)) ?_)
 rintro p ⟨L,tL,lL,rfl⟩
 refine seq_cutP (fun p=>∃L:List D,TL L/\L.length=24/\p=[some (.bor h),some (.own L),none]) (fun k hk=>?_) ?_
 ·simp only [R]
  refine ⟨by omega,hk _ ⟨_,tL.app ?_,by rw [List.length_append,lL];rfl,rfl⟩⟩
  repeat' (first|exact TL.nil|refine TL.cons (AT.ofB (by decide +kernel)) ?_)
 rintro p ⟨L,tL,lL,rfl⟩
 refine seq_goK fun kk hkk=>?_
 simp only [R]
 refine hkk _ ?_
 have odd:∃o:Str,(Str.ofString "!#$'()*./:;<=>?@BMXY[]^`{|}~abz")=o/\AT 31 o/\o.length=31:=⟨_,rfl,AT.ofB (by decide +kernel),by decide +kernel⟩
 obtain ⟨o,eo,ao,lo⟩:=odd
 rw [eo]
 refine seq_goK fun kk hkk=>?_
 simp only [R,S_law_take]
 refine ⟨by omega,_,hd,by omega,by omega,by omega,fun g h1 g0 g1 hd1=>⟨by omega,?_⟩⟩
 obtain ⟨c,ec,c1⟩:=sign_at ao g0 (by omega)
 refine ⟨c,ec,by omega,hkk _ ?_⟩
 have tL1:TL (L++[D.str ⟨#[c]⟩]):=tL.app (TL.cons ((AT.sign c1).mono (by decide)) TL.nil)
 have lL1:(L++[D.str ⟨#[c]⟩]).length=25:=by rw [List.length_append,lL];rfl
 generalize L++[D.str ⟨#[c]⟩]=L1 at tL1 lL1 ⊢
 refine seq_goK fun kk hkk=>?_
 simp only [R,S_law_take]
 refine ⟨by omega,_,hd1,by omega,by omega,by omega,fun g' h2 g0' g1' hd2=>⟨by omega,?_⟩⟩
 obtain ⟨c',ec',c1'⟩:=sign_at ao g0' (by omega)
 have one1:AT 1 (Str.ofString "1"):=AT.ofB (by decide +kernel)
 have l11:=(one1.cat (AT.sign c1')).2
 have l1:=one1.2
 refine ⟨c',ec',?_⟩
 refine ⟨by show _+1<=100000;omega,by omega,hkk _ ?_⟩
 have tL2:TL (L1++[D.str (Str.ofString "1"++⟨#[c']⟩)]):=tL1.app (TL.cons ((one1.cat (AT.sign c1')).mono (by decide)) TL.nil)
 have lL2:(L1++[D.str (Str.ofString "1"++⟨#[c']⟩)]).length=26:=by rw [List.length_append,lL1];rfl
 generalize L1++[D.str (Str.ofString "1"++⟨#[c']⟩)]=L2 at tL2 lL2 ⊢
 simp only [Q,S_law_take]
 refine ⟨_,hd2,by omega,by omega,by omega,fun g'' h3 g0'' g1'' hd3=>?_⟩
 obtain ⟨t,et,at'⟩:=tL2.at g0'' (by omega)
 exact ⟨_,et,q t h3 at' (hd3.mono (by omega))⟩
end
abbrev s_law_spoilt:Stmt:=top 22
abbrev A_law_spoilt (K:PySem.W.Frag) (mg:Str->Option Value):=DefAt K mg "_law_spoilt" s_law_spoilt ["deck","text"]
theorem sc_law_spoilt:FnScope ["deck","text","way","at","sign","words","last"] ["deck","text"] (defScope s_law_spoilt):=⟨rfl,rfl,rfl,by decide +kernel,rfl,by decide +kernel,by decide +kernel⟩
section
variable {P:Program} {w:World} {K:PySem.W.Frag} {mg:Str->Option Value} {base:Heap}
def S_law_spoilt:PSp:=fun as R=>∃(h:List D) (m:Int) (t:Str),as=[.bor h,.d (.str t)]/\DeckD m h/\m<=1500/\AT 1300 t/\∀(t':Str) h',AT 14000 t'->DeckD (m+20) h'->R (.rd (.str t')) [.bor h',.d (.str t)]
theorem cut_sub (ws:List Str) (l u:Option Int):∃vs:List Str,vs.Sublist ws/\cut (ws.map D.str) l u=vs.map D.str:=
 ⟨_,(List.take_sublist _ _).trans (List.drop_sublist _ _),by unfold cut;rw [List.length_map,<-List.map_drop,<-List.map_take]⟩
theorem join_at {ws:List Str} {S N:Nat} (ha:∀w∈ws,AT 1300 w) (hs:(ws.map (·.length)).sum<=S) (hn:ws.length<=N) (h2:N<=2000):JoinOk TX.sep ws=true/\AT (S+3 * N) (Txt.join TX.sep ws):=by
 refine ⟨?_,?_⟩
 ·have f:=StrLaws.joinFits (sep:=TX.sep) (texts:=ws) (B:=1300) (fun y hy=>(ha y hy).2) (by rw [TX.sep_n];omega)
  unfold JoinOk
  rw [f];rfl
 ·have e:Txt.join TX.sep ws=Str.join TX.sep ws:=StrLaws.glued_eq_join _ _
  rw [e]
  refine .of (fun c hc=>?_) ?_
  ·rcases TX.join_mem hc with h|h|⟨w,h1,h2⟩
   ·omega
   ·omega
   ·exact (ha w h1).mem c h2
  ·have:=StrLaws.join_length_le TX.sep ws
   rw [TX.sep_n] at this
   omega
theorem ok_law_spoilt (T:Txt mg) (Df:A_law_spoilt K mg) (D_law_take:A_law_take K mg) (D_law_bad:A_law_bad K mg):FnOk P w K mg base CX0 3 Df.f Df.fd ["deck","text"] (spOf K S_law_spoilt):=by
 have G_law_take:=ok_law_take (P:=P) (w:=w) (base:=base) T D_law_take
 have G_law_bad:=ok_law_bad (P:=P) (w:=w) (base:=base) T D_law_bad D_law_take
 refine Df.F.okP sc_law_spoilt (fun as R h=>?_) (fun cdv A outer s H E C as R hK hr h=>?_)
 ·obtain ⟨_,_,_,rfl,_⟩:=h;rfl
 have hu:=hr.units
 obtain ⟨h,m,t,rfl,hd,m6,ta,q⟩:=h
 have tl:=ta.2
 refine ⟨_,(s_cons (s_set (i:=2) sc_law_spoilt.nd rfl (by simp only [L2.QL]) (q_fz (n_call hK D_law_take G_law_take (hr.mono (by first|decide|omega)) (a_cons (q_var (pv 0)) (a_cons (q_c pe_int (fun _=>.int _)) a_nil)))))
    (s_cons (s_set (i:=3) sc_law_spoilt.nd rfl (by simp only [L2.QL]) (q_fz (n_call hK D_law_take G_law_take (hr.mono (by first|decide|omega)) (a_cons (q_var (pv 0)) (a_cons (q_add (cb_lenS rfl T.z_len (a_cons (q_var (pv 1)) a_nil)) (q_c pe_int (fun _=>.int _))) a_nil)))))
    (s_cons (s_set (i:=4) sc_law_spoilt.nd rfl (by simp only [L2.QL]) (q_ixS (q_c pe_str (fun _=>.str _)) (q_fz (n_call hK D_law_take G_law_take (hr.mono (by first|decide|omega)) (a_cons (q_var (pv 0)) (a_cons (q_c pe_int (fun _=>.int _)) a_nil)))) (fun _ _=>rfl)))
    (s_cons (s_if (t_eq hK hu (q_var (pv 2)) (q_c pe_int (fun _=>.int _))) (s_one (s_ret (n_val (q_addS (q_slS (q_var (pv 1)) o_none (o_some (q_var (pv 3)))) (q_slS (q_var (pv 1)) (o_some (q_add (q_var (pv 3)) (q_c pe_int (fun _=>.int _)))) o_none))))) s_nil)
    (s_cons (s_if (t_lt (q_var (pv 2)) (q_c pe_int (fun _=>.int _))) (s_one (s_ret (n_val (q_addS (q_addS (q_slS (q_var (pv 1)) o_none (o_some (q_var (pv 3)))) (q_var (pv 4))) (q_slS (q_var (pv 1)) (o_some (q_sub (q_add (q_var (pv 3)) (q_var (pv 2))) (q_c pe_int (fun _=>.int _)))) o_none))))) s_nil)
    (s_cons (s_set (i:=5) sc_law_spoilt.nd rfl (by simp only [L2.QL]) (q_fz (n_split hK (q_var (pv 1)) (a_cons (q_c pe_str (fun _=>.str _)) a_nil))))
    (s_cons (s_set (i:=3) sc_law_spoilt.nd rfl (by simp only [L2.QL]) (q_fz (n_call hK D_law_take G_law_take (hr.mono (by first|decide|omega)) (a_cons (q_var (pv 0)) (a_cons (q_add (cb_len hK rfl T.z_len (a_cons (q_var (pv 5)) a_nil)) (q_c pe_int (fun _=>.int _))) a_nil)))))
    (s_cons (s_if (t_eq hK hu (q_var (pv 2)) (q_c pe_int (fun _=>.int _))) (s_cons (s_set (i:=6) sc_law_spoilt.nd rfl (by simp only [L2.QL]) (q_fz (n_cat (q_fz (n_sl hK (q_var (pv 5)) (o_some (q_var (pv 3))) (o_some (q_add (q_var (pv 3)) (q_c pe_int (fun _=>.int _)))))) (q_fz (n_sl hK (q_var (pv 5)) (o_some (q_add (q_var (pv 3)) (q_c pe_int (fun _=>.int _)))) o_none)))))
    (s_one (s_ret (n_val (m_join hK (q_c pe_str (fun _=>.str _)) (a_cons (q_fz (n_cat (q_fz (n_cat (q_fz (n_sl hK (q_var (pv 5)) o_none (o_some (q_var (pv 3))))) (q_fz (n_sl hK (q_var (pv 5)) (o_some (q_add (q_var (pv 3)) (q_c pe_int (fun _=>.int _)))) (o_some (q_add (q_var (pv 3)) (q_c pe_int (fun _=>.int _)))))))) (q_var (pv 6)))) a_nil)))))) s_nil)
    (s_one (s_ret (n_val (m_join hK (q_c pe_str (fun _=>.str _)) (a_cons (q_fz (n_cat (q_fz (n_cat (q_fz (n_sl hK (q_var (pv 5)) o_none (o_some (q_var (pv 3))))) (q_fz (n_lst (a_cons (q_fz (n_call hK D_law_bad G_law_bad (hr.mono (by first|decide|omega)) (a_cons (q_var (pv 0)) a_nil))) a_nil))))) (q_fz (n_sl hK (q_var (pv 5)) (o_some (q_sub (q_add (q_var (pv 3)) (q_var (pv 2))) (q_c pe_int (fun _=>.int _)))) o_none)))) a_nil))))))))))))),?_⟩
 refine seq_goK fun kk hkk=>?_
 simp only [R,S_law_take]
 refine ⟨_,hd,by omega,fun w h1 w0 w1 hd1=>hkk _ ?_⟩
 refine seq_goK fun kk hkk=>?_
 simp only [R,S_law_take]
 refine ⟨by omega,_,hd1,by omega,by omega,by omega,fun g h2 g0 g1 hd2=>hkk _ ?_⟩
 obtain ⟨sg,es,as',ls⟩:∃o:Str,(Str.ofString " 0129+-a\n")=o/\AT 9 o/\o.length=9:=⟨_,rfl,AT.ofB (by decide +kernel),by decide +kernel⟩
 refine seq_goK fun kk hkk=>?_
 simp only [R,S_law_take]
 rw [es]
 refine ⟨_,hd2,by omega,fun k h3 k0 k1 hd3=>⟨by omega,?_⟩⟩
 obtain ⟨c,ec,c1⟩:=sign_at as' k0 (by omega)
 refine ⟨c,ec,hkk _ ?_⟩
 refine seq_goK fun kk hkk=>?_
 simp only [R]
 have cu:=fun l u=>ta.cut l u
 refine ite2 (fun w2=>?_) (fun w2=>hkk _ ?_)
 ·have a1:=(cu none (some g)).cat (cu (some (g+1)) none)
  have l1:=(cu none (some g)).2
  have l2:=(cu (some (g+1)) none).2
  exact ⟨by omega,by omega,by omega,q _ _ (a1.mono (by decide)) (hd3.mono (by omega))⟩
 refine seq_goK fun kk hkk=>?_
 simp only [R]
 refine ite2 (fun w3=>?_) (fun w3=>hkk _ ?_)
 ·have a1:=((cu none (some g)).cat (AT.sign c1)).cat (cu (some (g+w - 1)) none)
  have l1:=(cu none (some g)).2
  have l2:=(cu (some (g+w - 1)) none).2
  have l3:=((cu none (some g)).cat (AT.sign c1)).2
  refine ⟨by omega,by show _+1<=100000;omega,by omega,by omega,q _ _ (a1.mono (by decide)) (hd3.mono (by omega))⟩
 have few:=TX.words_many t
 have sm:=TX.sum_join (Txt.split t TX.sep)
 rw [StrLaws.join_split] at sm
 have wa:∀w∈Txt.split t TX.sep,AT 1300 w:=fun w hw=>⟨(TX.word_as ta.1 hw).1,by have:=(TX.word_as ta.1 hw).2;omega⟩
 refine seq_goK fun kk hkk=>?_
 simp only [R]
 refine ⟨by decide +kernel,by omega,by show (Txt.split t TX.sep).length<=100000;omega,hkk _ ?_⟩
 rw [show Txt.split t (Str.ofString " + ")=Txt.split t TX.sep from rfl]
 generalize Txt.split t TX.sep=ws at *
 refine seq_goK fun kk hkk=>?_
 simp only [R,S_law_take,List.length_map]
 refine ⟨_,hd3,by omega,by omega,by omega,fun g' h4 g0' g1' hd4=>hkk _ ?_⟩
 refine seq_goK fun kk hkk=>?_
 simp only [R]
 have b1:∀(vs:List Str),vs.Sublist ws->(∀w∈vs,AT 1300 w)/\(vs.map (·.length)).sum<=1300/\vs.length<=435:=fun vs h=>⟨fun w hw=>wa w (h.subset hw),by have:=TX.sum_sub h;omega,by have:=h.length_le;omega⟩
 refine ite2 (fun w4=>?_) (fun w4=>hkk _ ?_)
 ·obtain ⟨v1,s1,e1⟩:=cut_sub ws none (some g')
  obtain ⟨v2,s2,e2⟩:=cut_sub ws (some (g'+1)) (some (g'+2))
  obtain ⟨v3,s3,e3⟩:=cut_sub ws (some g') (some (g'+1))
  obtain ⟨v4,s4,e4⟩:=cut_sub ws (some (g'+2)) none
  obtain ⟨p1,q1,r1⟩:=b1 v1 s1
  obtain ⟨p2,q2,r2⟩:=b1 v2 s2
  obtain ⟨p3,q3,r3⟩:=b1 v3 s3
  obtain ⟨p4,q4,r4⟩:=b1 v4 s4
  obtain ⟨y1,y2⟩:=join_at (ws:=v1++v2++(v3++v4)) (S:=5200) (N:=1740) (fun w hw=>by
   rcases List.mem_append.mp hw with hw|hw
   ·rcases List.mem_append.mp hw with hw|hw
    ·exact p1 w hw
    ·exact p2 w hw
   ·rcases List.mem_append.mp hw with hw|hw
    ·exact p3 w hw
    ·exact p4 w hw) (by simp only [List.map_append,List.sum_append];omega) (by simp only [List.length_append];omega) (by decide)
  refine seq_goK fun kk hkk=>?_
  simp only [R,e3,e4,List.length_map]
  refine ⟨by omega,hkk _ ?_⟩
  simp only [Q,e1,e2,List.length_map,List.length_append]
  refine ⟨by omega,by omega,v1++v2++(v3++v4),by simp only [List.map_append],y1,q _ _ (y2.mono (by decide)) (hd4.mono (by omega))⟩
 obtain ⟨v1,s1,e1⟩:=cut_sub ws none (some g')
 obtain ⟨v4,s4,e4⟩:=cut_sub ws (some (g'+w - 4)) none
 obtain ⟨p1,q1,r1⟩:=b1 v1 s1
 obtain ⟨p4,q4,r4⟩:=b1 v4 s4
 simp only [Q,e1,e4,S_law_bad,List.length_map,List.length_append]
 refine ⟨_,hd4,by omega,fun bt h5 ba hd5=>⟨by omega,by omega,?_⟩⟩
 obtain ⟨y1,y2⟩:=join_at (ws:=v1++[bt]++v4) (S:=3600) (N:=900) (fun w hw=>by
  rcases List.mem_append.mp hw with hw|hw
  ·rcases List.mem_append.mp hw with hw|hw
   ·exact p1 w hw
   ·rw [List.mem_singleton.mp hw];exact ba.mono (by decide)
  ·exact p4 w hw) (by have:=ba.2;simp only [List.map_append,List.sum_append,List.map_cons,List.map_nil,List.sum_cons,List.sum_nil];omega) (by simp only [List.length_append,List.length_singleton];omega) (by decide)
 exact ⟨v1++[bt]++v4,by simp only [List.map_append,List.map_cons,List.map_nil],y1,q _ _ (y2.mono (by decide)) (hd5.mono (by omega))⟩
end
abbrev s_law:Stmt:=top 25
theorem sc_law:FnScope ["script","cell","deck","text"] ["script"] (defScope s_law):=⟨rfl,rfl,rfl,by decide +kernel,rfl,by decide +kernel,by decide +kernel⟩
section
variable {P:Program} {w:World} {K:PySem.W.Frag} {mg:Str->Option Value} {base:Heap}
def S_law:PSp:=fun as R=>∃(ns:List Int),as=[.d (.scr ns)]/\ns.length<=63/\R (.rd (.bl true)) as
theorem wt_at {ns:List Int} (h:Wy ns) (hl:(wt ns).length<=1300):AT 1300 (wt ns):=by
 refine .of (fun c hc=>?_) hl
 by_cases ne:ns=[]
 ·subst ne
  have e:wt []=("0":Str):=by unfold wt;rw [if_pos rfl]
  rw [e,one0] at hc
  simp at hc;omega
 ·rw [wt_join ne] at hc
  rcases _root_.TX.join_mem hc with h1|h1|⟨w,h1,h2⟩
  ·omega
  ·omega
  ·obtain ⟨n,hn,rfl⟩:=List.mem_map.mp h1
   have:=(_root_.TX.num_of (h.rng n hn).1 (h.rng n hn).2).dig c h2
   omega
theorem rep_l (x:Array Nat):∀(k:Nat) (acc:Array Nat),((List.replicate k x).foldl (·++·) acc).size=acc.size+k * x.size/\∀c∈((List.replicate k x).foldl (·++·) acc).toList,c∈acc.toList\/c∈x.toList
 | 0,acc=>⟨by simp,fun c hc=>.inl hc⟩
 | k+1,acc=>by
  rw [List.replicate_succ,List.foldl_cons]
  obtain ⟨a,b⟩:=rep_l x k (acc++x)
  refine ⟨by rw [a,Array.size_append,Nat.succ_mul];omega,fun c hc=>?_⟩
  rcases b c hc with h|h
  ·rw [Array.toList_append] at h
   exact List.mem_append.mp h
  ·exact .inr h
theorem AT.mul {m:Nat} {x:Str} (h:AT m x) (k:Nat):AT (m * k) (Txt.mul x (k:Int)):=by
 unfold Txt.mul
 by_cases z:(k:Int)<1
 ·rw [if_pos z]
  exact .of (fun c hc=>by cases hc) (Nat.zero_le _)
 rw [if_neg z]
 by_cases y:((k:Int) == 1 || x.length == 0)=true
 ·rw [if_pos y]
  exact h.mono (Nat.le_mul_of_pos_right m (by omega))
 rw [if_neg y]
 obtain ⟨a,b⟩:=rep_l x.cps k #[]
 rw [Int.toNat_natCast]
 refine .of (fun c hc=>?_) ?_
 ·rcases b c hc with h1|h1
  ·cases h1
  ·exact h.mem c h1
 ·show ((List.replicate k x.cps).foldl (·++·) #[]).size<=m * k
  rw [a,Nat.mul_comm m k]
  have:=Nat.mul_le_mul_left k h.2
  have e:x.cps.size=x.length:=rfl
  simp only [List.size_toArray,List.length_nil,Nat.zero_add,e]
  exact this
theorem cell_at {ns:List Int} {i:Nat} (hi:i<(ns.take 40).length+2):∃c:Int,((ns.take 40).map D.int++[D.int 0,D.int 1]).getD i .non=.int c:=by
 have e:(ns.take 40).map D.int++[D.int 0,D.int 1]=(ns.take 40++[0,1]).map D.int:=by rw [List.map_append];rfl
 rw [e]
 exact ⟨_,getD_ints (by rw [List.length_append];exact hi)⟩
theorem ok_law (T:Txt mg) {cs:XA} (TX:XT K mg cs) (Df:DefAt K mg "law" s_law ["script"]) (D_law_deck:A_law_deck K mg) (D_law_take:A_law_take K mg) (D_law_text:A_law_text K mg) (D_is_written:A_is_written K mg) (D_read_way:A_read_way K mg) (D_law_number_in:A_law_number_in K mg) (D_show_way:A_show_way K mg) (D_law_right:A_law_right K mg) (D_law_bad:A_law_bad K mg) (D_law_spoilt:A_law_spoilt K mg):FnOk P w K mg base CX0 4 Df.f Df.fd ["script"] (spOf K S_law):=by
 have G_law_deck:=ok_law_deck (P:=P) (w:=w) (base:=base) T D_law_deck
 have G_law_text:=ok_law_text (P:=P) (w:=w) (base:=base) T D_law_text D_law_take
 have G_law_right:=ok_law_right (P:=P) (w:=w) (base:=base) T TX D_law_right D_is_written D_read_way D_law_number_in D_show_way
 have G_law_spoilt:=ok_law_spoilt (P:=P) (w:=w) (base:=base) T D_law_spoilt D_law_take D_law_bad
 refine Df.F.okP sc_law (fun as R h=>?_) (fun cdv A outer s H E C as R hK hr h=>?_)
 ·obtain ⟨_,rfl,_⟩:=h;rfl
 have hu:=hr.units
 obtain ⟨ns,rfl,hl,q⟩:=h
 refine ⟨_,(s_cons (s_for PassesOwn.never rfl (i_list hK (q_fz (n_cat (q_fz (n_sl hK (q_var (pv 0)) o_none (o_some (q_c pe_int (fun _=>.int _))))) (q_fz (n_lst (a_cons (q_c pe_int (fun _=>.int _)) (a_cons (q_c pe_int (fun _=>.int _)) a_nil))))))) (g_name (i:=1) sc_law.nd rfl (by simp only [L2.QL])) (s_cons (s_setN (i:=2) sc_law.nd rfl (by simp only [L2.QL]) (n_call hK D_law_deck G_law_deck (hr.mono (by first|decide|omega)) (a_cons (q_var (pv 1)) (a_cons (q_c pe_int (fun _=>.int _)) a_nil))))
    (s_cons (s_set (i:=3) sc_law.nd rfl (by simp only [L2.QL]) (q_fz (n_call hK D_law_text G_law_text (hr.mono (by first|decide|omega)) (a_cons (q_var (pv 2)) a_nil))))
    (s_one (s_if (PW.pt (w_or (t_not (t_val (q_fz (n_call hK D_law_right G_law_right (hr.mono (by first|decide|omega)) (a_cons (q_var (pv 3)) a_nil))))) (w_or1 (t_not (t_val (q_fz (n_call hK D_law_right G_law_right (hr.mono (by first|decide|omega)) (a_cons (q_fz (n_call hK D_law_spoilt G_law_spoilt (hr.mono (by first|decide|omega)) (a_cons (q_var (pv 2)) (a_cons (q_var (pv 3)) a_nil)))) a_nil)))))))) (s_one (s_ret (n_val (q_c pe_bl (fun _=>.bl _))))) s_nil)))))
    (s_one (s_ret (n_val (q_andV (q_fz (n_call hK D_law_right G_law_right (hr.mono (by first|decide|omega)) (a_cons (q_addS (q_mulS (q_c pe_str (fun _=>.str _)) (q_c pe_int (fun _=>.int _))) (q_c pe_str (fun _=>.str _))) a_nil))) (q_andV (q_fz (n_call hK D_law_right G_law_right (hr.mono (by first|decide|omega)) (a_cons (q_mulS (q_c pe_str (fun _=>.str _)) (q_c pe_int (fun _=>.int _))) a_nil))) (q_one (q_fz (n_call hK D_law_right G_law_right (hr.mono (by first|decide|omega)) (a_cons (q_c pe_str (fun _=>.str _)) a_nil)))))))))),?_⟩
 have hcut:cut (ns.map D.int) none (some 40)=(ns.take 40).map D.int:=by rw [show (40:Int)=((40:Nat):Int) from rfl,cut_take,List.map_take]
 have lc:((ns.take 40).map D.int++[D.int 0,D.int 1]).length=(ns.take 40).length+2:=by rw [List.length_append,List.length_map];rfl
 have l40:(ns.take 40).length<=40:=by rw [List.length_take];omega
 refine seq_goK fun kk hkk=>?_
 obtain ⟨I,hI⟩:∃I:Nat->PSt->Prop,I=(fun (i:Nat) p=>∃(w1 w2 w3:Option D) (d:Option (List D)),p=[some (.d (.scr ns)),Option.map Sl.d w1,Option.map Sl.own d,Option.map Sl.d w3]):=⟨_,rfl⟩
 refine for_q (n:=((ns.take 40).map D.int++[D.int 0,D.int 1]).length) (item:=fun i=>((ns.take 40).map D.int++[D.int 0,D.int 1]).getD i .non) (p1:=_) (fun Q h=>by
  simp only [Q,hcut]
  exact ⟨by rw [List.length_map];omega,h⟩) I (by rw [hI];exact ⟨none,none,none,none,rfl⟩) ?_ ?_
 ·intro i p hi hp
  rw [hI] at hp
  obtain ⟨w1,w2,w3,d,rfl⟩:=hp
  rw [lc] at hi
  obtain ⟨c,ec⟩:=cell_at (ns:=ns) hi
  rw [ec]
  cases d with
  | none=>
   simp only [R]
   refine seq_goK fun kk hkk=>?_
   simp only [R,S_law_deck]
   refine fun h hd=>⟨by cases w3<;>rfl,hkk _ ?_⟩
   refine seq_goK fun kk hkk=>?_
   simp only [R,S_law_text]
   refine ⟨_,hd,by decide,fun ms h' hw hl2 hd2=>?_⟩
   have at1:=wt_at hw hl2
   refine hkk _ ?_
   simp only [R,S_law_right,S_law_spoilt]
   refine ⟨at1.1,by omega,_,hd2,by decide,at1,fun t' h'' a' _=>⟨a'.1,a'.2,?_⟩⟩
   rw [hI]
   exact ⟨some _,none,some _,some _,rfl⟩
  | some d=>
   simp only [R]
   refine seq_goK fun kk hkk=>?_
   simp only [R,S_law_deck]
   refine fun h hd=>⟨by cases w3<;>rfl,hkk _ ?_⟩
   refine seq_goK fun kk hkk=>?_
   simp only [R,S_law_text]
   refine ⟨_,hd,by decide,fun ms h' hw hl2 hd2=>?_⟩
   have at1:=wt_at hw hl2
   refine hkk _ ?_
   simp only [R,S_law_right,S_law_spoilt]
   refine ⟨at1.1,by omega,_,hd2,by decide,at1,fun t' h'' a' _=>⟨a'.1,a'.2,?_⟩⟩
   rw [hI]
   exact ⟨some _,none,some _,some _,rfl⟩
 ·intro p hp
  rw [hI] at hp
  obtain ⟨w1,w2,w3,d,rfl⟩:=hp
  refine hkk _ ?_
  simp only [R,S_law_right]
  have m1:AT (4 * 700) (Txt.mul (Str.ofString "1 + ") 700):=AT.mul (AT.ofB (by decide +kernel)) 700
  have m2:AT (1 * 3000) (Txt.mul (Str.ofString "7") 3000):=AT.mul (AT.ofB (by decide +kernel)) 3000
  have o1:AT 1 (Str.ofString "1"):=AT.ofB (by decide +kernel)
  have m3:=m1.cat o1
  have e0:AT 0 (Str.ofString ""):=AT.ofB (by decide +kernel)
  have l1:=m1.2
  have l2:=m2.2
  have l3:=m3.2
  have l4:=o1.2
  have l5:=e0.2
  exact ⟨by unfold MulOk;decide +kernel,by omega,m3.1,by omega,by unfold MulOk;decide +kernel,m2.1,by omega,e0.1,by omega,q⟩
end
theorem sp_start {K:PySem.W.Frag} {H:Hp} {a:Addr} {ns:List Int} {E:XK} (hl:ns.length<=63) (hS:SqL K H a (ns.map V.int)):spOf K S_law [.ref a] H (fun v _=>v=.bl true) E:=
 ⟨[.d (.scr ns)],H,fun r _=>r=.rd (.bl true),Same.refl _,args_scr hS,⟨ns,rfl,hl,rfl⟩,fun r as' v F' H' po hr=>by
  subst hr
  have h:=po.res
  cases h
  rfl⟩
@[elab_as_elim] theorem len1 {α:Type} {C:List α->Prop} (us:List α) (hl:us.length=1) (h:∀x0:α,C [x0]):C us:=match us,hl,h with | [x0],_,h=>h x0
@[elab_as_elim] theorem len2 {α:Type} {C:List α->Prop} (us:List α) (hl:us.length=2) (h:∀x0 x1:α,C [x0,x1]):C us:=match us,hl,h with | [x0,x1],_,h=>h x0 x1
theorem all_mk {l:PySem.W.OpenLaw} {w:World} {K:PySem.W.Frag} {h:Heap} {mg:Str->Option Value} {fa f1 f2 f3 f4 f5 f6 f7 f8 f9 f10 f11:Addr} (X:K.In h) (G:h.Ns mainGlobals mg) (hfa:mg "law"=some (.ref fa))
  {od1 an1:Option Addr} {sl1:Array (Option Value)} {oc1 kV1 dc1 pm1 cd1 ct1:Value} {od2 an2:Option Addr} {sl2:Array (Option Value)} {oc2 kV2 dc2 pm2 cd2 ct2:Value} {od3 an3:Option Addr} {sl3:Array (Option Value)} {oc3 kV3 dc3 pm3 cd3 ct3:Value} {od4 an4:Option Addr} {sl4:Array (Option Value)} {oc4 kV4 dc4 pm4 cd4 ct4:Value} {od5 an5:Option Addr} {sl5:Array (Option Value)} {oc5 kV5 dc5 pm5 cd5 ct5:Value} {od6 an6:Option Addr} {sl6:Array (Option Value)} {oc6 kV6 dc6 pm6 cd6 ct6:Value} {od7 an7:Option Addr} {sl7:Array (Option Value)} {oc7 kV7 dc7 pm7 cd7 ct7:Value} {od8 an8:Option Addr} {sl8:Array (Option Value)} {oc8 kV8 dc8 pm8 cd8 ct8:Value} {od9 an9:Option Addr} {sl9:Array (Option Value)} {oc9 kV9 dc9 pm9 cd9 ct9:Value} {od10 an10:Option Addr} {sl10:Array (Option Value)} {oc10 kV10 dc10 pm10 cd10 ct10:Value} {od11 an11:Option Addr} {sl11:Array (Option Value)} {oc11 kV11 dc11 pm11 cd11 ct11:Value} {t_MOST_FIGURES:Tok} {t_FIGURES_OF_TEN:Tok} {t_WAY_OF_NONE:Tok} {X_MirrorError N_MirrorError:Addr} {nm_MirrorError q_MirrorError:Str} {bs_MirrorError sub_MirrorError:List Value} {hd_MirrorError ab_MirrorError:Bool} {sn_MirrorError:List Str} {col_MirrorError:Option Bool} {dd_MirrorError od_MirrorError:Option Addr} {x0_MirrorError x1_MirrorError x2_MirrorError x3_MirrorError x5_MirrorError:Option Value} {oc_MirrorError:Value} {es_MirrorError:Array DictEntry} {ep_MirrorError:Nat} {sl_MirrorError:Array (Option Value)} {X_NoBase N_NoBase:Addr} {nm_NoBase q_NoBase:Str} {bs_NoBase sub_NoBase:List Value} {hd_NoBase ab_NoBase:Bool} {sn_NoBase:List Str} {col_NoBase:Option Bool} {dd_NoBase od_NoBase:Option Addr} {x0_NoBase x1_NoBase x2_NoBase x3_NoBase x5_NoBase:Option Value} {oc_NoBase:Value} {es_NoBase:Array DictEntry} {ep_NoBase:Nat} {sl_NoBase:Array (Option Value)} {X_NoNumber N_NoNumber:Addr} {nm_NoNumber q_NoNumber:Str} {bs_NoNumber sub_NoNumber:List Value} {hd_NoNumber ab_NoNumber:Bool} {sn_NoNumber:List Str} {col_NoNumber:Option Bool} {dd_NoNumber od_NoNumber:Option Addr} {x0_NoNumber x1_NoNumber x2_NoNumber x3_NoNumber x5_NoNumber:Option Value} {oc_NoNumber:Value} {es_NoNumber:Array DictEntry} {ep_NoNumber:Nat} {sl_NoNumber:Array (Option Value)} {X_NoMirror N_NoMirror:Addr} {nm_NoMirror q_NoMirror:Str} {bs_NoMirror sub_NoMirror:List Value} {hd_NoMirror ab_NoMirror:Bool} {sn_NoMirror:List Str} {col_NoMirror:Option Bool} {dd_NoMirror od_NoMirror:Option Addr} {x0_NoMirror x1_NoMirror x2_NoMirror x3_NoMirror x5_NoMirror:Option Value} {oc_NoMirror:Value} {es_NoMirror:Array DictEntry} {ep_NoMirror:Nat} {sl_NoMirror:Array (Option Value)} {X_NoPlace N_NoPlace:Addr} {nm_NoPlace q_NoPlace:Str} {bs_NoPlace sub_NoPlace:List Value} {hd_NoPlace ab_NoPlace:Bool} {sn_NoPlace:List Str} {col_NoPlace:Option Bool} {dd_NoPlace od_NoPlace:Option Addr} {x0_NoPlace x1_NoPlace x2_NoPlace x3_NoPlace x5_NoPlace:Option Value} {oc_NoPlace:Value} {es_NoPlace:Array DictEntry} {ep_NoPlace:Nat} {sl_NoPlace:Array (Option Value)} {X_NoWay N_NoWay:Addr} {nm_NoWay q_NoWay:Str} {bs_NoWay sub_NoWay:List Value} {hd_NoWay ab_NoWay:Bool} {sn_NoWay:List Str} {col_NoWay:Option Bool} {dd_NoWay od_NoWay:Option Addr} {x0_NoWay x1_NoWay x2_NoWay x3_NoWay x5_NoWay:Option Value} {oc_NoWay:Value} {es_NoWay:Array DictEntry} {ep_NoWay:Nat} {sl_NoWay:Array (Option Value)} {X_NoText N_NoText:Addr} {nm_NoText q_NoText:Str} {bs_NoText sub_NoText:List Value} {hd_NoText ab_NoText:Bool} {sn_NoText:List Str} {col_NoText:Option Bool} {dd_NoText od_NoText:Option Addr} {x0_NoText x1_NoText x2_NoText x3_NoText x5_NoText:Option Value} {oc_NoText:Value} {es_NoText:Array DictEntry} {ep_NoText:Nat} {sl_NoText:Array (Option Value)} {X_NoCommand N_NoCommand:Addr} {nm_NoCommand q_NoCommand:Str} {bs_NoCommand sub_NoCommand:List Value} {hd_NoCommand ab_NoCommand:Bool} {sn_NoCommand:List Str} {col_NoCommand:Option Bool} {dd_NoCommand od_NoCommand:Option Addr} {x0_NoCommand x1_NoCommand x2_NoCommand x3_NoCommand x5_NoCommand:Option Value} {oc_NoCommand:Value} {es_NoCommand:Array DictEntry} {ep_NoCommand:Nat} {sl_NoCommand:Array (Option Value)}
  (a1:PySem.W.nsIn K mainGlobals "_law_deck"=some (some (.ref f1))) (l1:K.lookup f1=some ⟨oc1,od1,.func (PySem.W.fnOf "_law_deck" "_law_deck" (defArgs s_law_deck) (defBody s_law_deck) (defScope s_law_deck) .none kV1 dc1 pm1 an1 cd1 ct1),sl1⟩) (c1:PySem.W.codeIn K cd1 "_law_deck"=true) (k1:PySem.W.keepIn K (.ref f1)=true)
  (a2:PySem.W.nsIn K mainGlobals "_law_take"=some (some (.ref f2))) (l2:K.lookup f2=some ⟨oc2,od2,.func (PySem.W.fnOf "_law_take" "_law_take" (defArgs s_law_take) (defBody s_law_take) (defScope s_law_take) .none kV2 dc2 pm2 an2 cd2 ct2),sl2⟩) (c2:PySem.W.codeIn K cd2 "_law_take"=true) (k2:PySem.W.keepIn K (.ref f2)=true)
  (a3:PySem.W.nsIn K mainGlobals "_law_text"=some (some (.ref f3))) (l3:K.lookup f3=some ⟨oc3,od3,.func (PySem.W.fnOf "_law_text" "_law_text" (defArgs s_law_text) (defBody s_law_text) (defScope s_law_text) .none kV3 dc3 pm3 an3 cd3 ct3),sl3⟩) (c3:PySem.W.codeIn K cd3 "_law_text"=true) (k3:PySem.W.keepIn K (.ref f3)=true)
  (a4:PySem.W.nsIn K mainGlobals "is_written"=some (some (.ref f4))) (l4:K.lookup f4=some ⟨oc4,od4,.func (PySem.W.fnOf "is_written" "is_written" (defArgs s_is_written) (defBody s_is_written) (defScope s_is_written) .none kV4 dc4 pm4 an4 cd4 ct4),sl4⟩) (c4:PySem.W.codeIn K cd4 "is_written"=true) (k4:PySem.W.keepIn K (.ref f4)=true)
  (a5:PySem.W.nsIn K mainGlobals "read_way"=some (some (.ref f5))) (l5:K.lookup f5=some ⟨oc5,od5,.func (PySem.W.fnOf "read_way" "read_way" (defArgs s_read_way) (defBody s_read_way) (defScope s_read_way) .none kV5 dc5 pm5 an5 cd5 ct5),sl5⟩) (c5:PySem.W.codeIn K cd5 "read_way"=true) (k5:PySem.W.keepIn K (.ref f5)=true)
  (a6:PySem.W.nsIn K mainGlobals "_law_number_in"=some (some (.ref f6))) (l6:K.lookup f6=some ⟨oc6,od6,.func (PySem.W.fnOf "_law_number_in" "_law_number_in" (defArgs s_law_number_in) (defBody s_law_number_in) (defScope s_law_number_in) .none kV6 dc6 pm6 an6 cd6 ct6),sl6⟩) (c6:PySem.W.codeIn K cd6 "_law_number_in"=true) (k6:PySem.W.keepIn K (.ref f6)=true)
  (a7:PySem.W.nsIn K mainGlobals "show_way"=some (some (.ref f7))) (l7:K.lookup f7=some ⟨oc7,od7,.func (PySem.W.fnOf "show_way" "show_way" (defArgs s_show_way) (defBody s_show_way) (defScope s_show_way) .none kV7 dc7 pm7 an7 cd7 ct7),sl7⟩) (c7:PySem.W.codeIn K cd7 "show_way"=true) (k7:PySem.W.keepIn K (.ref f7)=true)
  (a8:PySem.W.nsIn K mainGlobals "_law_right"=some (some (.ref f8))) (l8:K.lookup f8=some ⟨oc8,od8,.func (PySem.W.fnOf "_law_right" "_law_right" (defArgs s_law_right) (defBody s_law_right) (defScope s_law_right) .none kV8 dc8 pm8 an8 cd8 ct8),sl8⟩) (c8:PySem.W.codeIn K cd8 "_law_right"=true) (k8:PySem.W.keepIn K (.ref f8)=true)
  (a9:PySem.W.nsIn K mainGlobals "_law_bad"=some (some (.ref f9))) (l9:K.lookup f9=some ⟨oc9,od9,.func (PySem.W.fnOf "_law_bad" "_law_bad" (defArgs s_law_bad) (defBody s_law_bad) (defScope s_law_bad) .none kV9 dc9 pm9 an9 cd9 ct9),sl9⟩) (c9:PySem.W.codeIn K cd9 "_law_bad"=true) (k9:PySem.W.keepIn K (.ref f9)=true)
  (a10:PySem.W.nsIn K mainGlobals "_law_spoilt"=some (some (.ref f10))) (l10:K.lookup f10=some ⟨oc10,od10,.func (PySem.W.fnOf "_law_spoilt" "_law_spoilt" (defArgs s_law_spoilt) (defBody s_law_spoilt) (defScope s_law_spoilt) .none kV10 dc10 pm10 an10 cd10 ct10),sl10⟩) (c10:PySem.W.codeIn K cd10 "_law_spoilt"=true) (k10:PySem.W.keepIn K (.ref f10)=true)
  (a11:PySem.W.nsIn K mainGlobals "law"=some (some (.ref f11))) (l11:K.lookup f11=some ⟨oc11,od11,.func (PySem.W.fnOf "law" "law" (defArgs s_law) (defBody s_law) (defScope s_law) .none kV11 dc11 pm11 an11 cd11 ct11),sl11⟩) (c11:PySem.W.codeIn K cd11 "law"=true) (k11:PySem.W.keepIn K (.ref f11)=true)
  (z_isinstance:PySem.W.nsIn K mainGlobals "isinstance"=some none)
  (z_int:PySem.W.nsIn K mainGlobals "int"=some none)
  (z_list:PySem.W.nsIn K mainGlobals "list"=some none)
  (z_len:PySem.W.nsIn K mainGlobals "len"=some none)
  (z_range:PySem.W.nsIn K mainGlobals "range"=some none)
  (z_str:PySem.W.nsIn K mainGlobals "str"=some none)
  (z_sorted:PySem.W.nsIn K mainGlobals "sorted"=some none)
  (z_repr:PySem.W.nsIn K mainGlobals "repr"=some none)
  (z_all:PySem.W.nsIn K mainGlobals "all"=some none)
  (z_ValueError:PySem.W.nsIn K mainGlobals "ValueError"=some none)
  (y_MOST_FIGURES:PySem.W.nsIn K mainGlobals "MOST_FIGURES"=some (some (.int 40 t_MOST_FIGURES)))
  (y_FIGURES_OF_TEN:PySem.W.nsIn K mainGlobals "FIGURES_OF_TEN"=some (some (.str "0123456789" t_FIGURES_OF_TEN)))
  (y_WAY_OF_NONE:PySem.W.nsIn K mainGlobals "WAY_OF_NONE"=some (some (.str "0" t_WAY_OF_NONE)))
  (xa_MirrorError:PySem.W.nsIn K mainGlobals "MirrorError"=some (some (.ref X_MirrorError)))
  (xl_MirrorError:K.lookup X_MirrorError=some (excClassObj nm_MirrorError q_MirrorError X_MirrorError N_MirrorError bs_MirrorError vbm hd_MirrorError sn_MirrorError sub_MirrorError ab_MirrorError col_MirrorError dd_MirrorError x0_MirrorError x1_MirrorError x2_MirrorError x3_MirrorError x5_MirrorError "ValueError.__new__"))
  (xd_MirrorError:K.lookup N_MirrorError=some ⟨oc_MirrorError,od_MirrorError,.dict es_MirrorError ep_MirrorError,sl_MirrorError⟩)
  (xo_MirrorError:strKeys es_MirrorError=true)
  (xi_MirrorError:PySem.W.nsIn K N_MirrorError "__init__"=some none)
  (xa_NoBase:PySem.W.nsIn K mainGlobals "NoBase"=some (some (.ref X_NoBase)))
  (xl_NoBase:K.lookup X_NoBase=some (excClassObj nm_NoBase q_NoBase X_NoBase N_NoBase bs_NoBase (.ref X_MirrorError::vbm) hd_NoBase sn_NoBase sub_NoBase ab_NoBase col_NoBase dd_NoBase x0_NoBase x1_NoBase x2_NoBase x3_NoBase x5_NoBase "ValueError.__new__"))
  (xd_NoBase:K.lookup N_NoBase=some ⟨oc_NoBase,od_NoBase,.dict es_NoBase ep_NoBase,sl_NoBase⟩)
  (xo_NoBase:strKeys es_NoBase=true)
  (xi_NoBase:PySem.W.nsIn K N_NoBase "__init__"=some none)
  (xk_NoBase:PySem.W.isClsIn K X_NoBase=true)
  (xt_NoBase:PySem.W.typeIn K (.ref X_NoBase)=some (.type "type"))
  (xs_NoBase:PySem.W.subIn K (.ref X_NoBase) (.ref X_NoBase)=some true)
  (xn_NoBase:PySem.W.subIn K (.type "NoneType") (.ref X_NoBase)=some false)
  (xa_NoNumber:PySem.W.nsIn K mainGlobals "NoNumber"=some (some (.ref X_NoNumber)))
  (xl_NoNumber:K.lookup X_NoNumber=some (excClassObj nm_NoNumber q_NoNumber X_NoNumber N_NoNumber bs_NoNumber (.ref X_MirrorError::vbm) hd_NoNumber sn_NoNumber sub_NoNumber ab_NoNumber col_NoNumber dd_NoNumber x0_NoNumber x1_NoNumber x2_NoNumber x3_NoNumber x5_NoNumber "ValueError.__new__"))
  (xd_NoNumber:K.lookup N_NoNumber=some ⟨oc_NoNumber,od_NoNumber,.dict es_NoNumber ep_NoNumber,sl_NoNumber⟩)
  (xo_NoNumber:strKeys es_NoNumber=true)
  (xi_NoNumber:PySem.W.nsIn K N_NoNumber "__init__"=some none)
  (xk_NoNumber:PySem.W.isClsIn K X_NoNumber=true)
  (xt_NoNumber:PySem.W.typeIn K (.ref X_NoNumber)=some (.type "type"))
  (xs_NoNumber:PySem.W.subIn K (.ref X_NoNumber) (.ref X_NoNumber)=some true)
  (xn_NoNumber:PySem.W.subIn K (.type "NoneType") (.ref X_NoNumber)=some false)
  (xa_NoMirror:PySem.W.nsIn K mainGlobals "NoMirror"=some (some (.ref X_NoMirror)))
  (xl_NoMirror:K.lookup X_NoMirror=some (excClassObj nm_NoMirror q_NoMirror X_NoMirror N_NoMirror bs_NoMirror (.ref X_MirrorError::vbm) hd_NoMirror sn_NoMirror sub_NoMirror ab_NoMirror col_NoMirror dd_NoMirror x0_NoMirror x1_NoMirror x2_NoMirror x3_NoMirror x5_NoMirror "ValueError.__new__"))
  (xd_NoMirror:K.lookup N_NoMirror=some ⟨oc_NoMirror,od_NoMirror,.dict es_NoMirror ep_NoMirror,sl_NoMirror⟩)
  (xo_NoMirror:strKeys es_NoMirror=true)
  (xi_NoMirror:PySem.W.nsIn K N_NoMirror "__init__"=some none)
  (xk_NoMirror:PySem.W.isClsIn K X_NoMirror=true)
  (xt_NoMirror:PySem.W.typeIn K (.ref X_NoMirror)=some (.type "type"))
  (xs_NoMirror:PySem.W.subIn K (.ref X_NoMirror) (.ref X_NoMirror)=some true)
  (xn_NoMirror:PySem.W.subIn K (.type "NoneType") (.ref X_NoMirror)=some false)
  (xa_NoPlace:PySem.W.nsIn K mainGlobals "NoPlace"=some (some (.ref X_NoPlace)))
  (xl_NoPlace:K.lookup X_NoPlace=some (excClassObj nm_NoPlace q_NoPlace X_NoPlace N_NoPlace bs_NoPlace (.ref X_MirrorError::vbm) hd_NoPlace sn_NoPlace sub_NoPlace ab_NoPlace col_NoPlace dd_NoPlace x0_NoPlace x1_NoPlace x2_NoPlace x3_NoPlace x5_NoPlace "ValueError.__new__"))
  (xd_NoPlace:K.lookup N_NoPlace=some ⟨oc_NoPlace,od_NoPlace,.dict es_NoPlace ep_NoPlace,sl_NoPlace⟩)
  (xo_NoPlace:strKeys es_NoPlace=true)
  (xi_NoPlace:PySem.W.nsIn K N_NoPlace "__init__"=some none)
  (xk_NoPlace:PySem.W.isClsIn K X_NoPlace=true)
  (xt_NoPlace:PySem.W.typeIn K (.ref X_NoPlace)=some (.type "type"))
  (xs_NoPlace:PySem.W.subIn K (.ref X_NoPlace) (.ref X_NoPlace)=some true)
  (xn_NoPlace:PySem.W.subIn K (.type "NoneType") (.ref X_NoPlace)=some false)
  (xa_NoWay:PySem.W.nsIn K mainGlobals "NoWay"=some (some (.ref X_NoWay)))
  (xl_NoWay:K.lookup X_NoWay=some (excClassObj nm_NoWay q_NoWay X_NoWay N_NoWay bs_NoWay (.ref X_MirrorError::vbm) hd_NoWay sn_NoWay sub_NoWay ab_NoWay col_NoWay dd_NoWay x0_NoWay x1_NoWay x2_NoWay x3_NoWay x5_NoWay "ValueError.__new__"))
  (xd_NoWay:K.lookup N_NoWay=some ⟨oc_NoWay,od_NoWay,.dict es_NoWay ep_NoWay,sl_NoWay⟩)
  (xo_NoWay:strKeys es_NoWay=true)
  (xi_NoWay:PySem.W.nsIn K N_NoWay "__init__"=some none)
  (xk_NoWay:PySem.W.isClsIn K X_NoWay=true)
  (xt_NoWay:PySem.W.typeIn K (.ref X_NoWay)=some (.type "type"))
  (xs_NoWay:PySem.W.subIn K (.ref X_NoWay) (.ref X_NoWay)=some true)
  (xn_NoWay:PySem.W.subIn K (.type "NoneType") (.ref X_NoWay)=some false)
  (xa_NoText:PySem.W.nsIn K mainGlobals "NoText"=some (some (.ref X_NoText)))
  (xl_NoText:K.lookup X_NoText=some (excClassObj nm_NoText q_NoText X_NoText N_NoText bs_NoText (.ref X_MirrorError::vbm) hd_NoText sn_NoText sub_NoText ab_NoText col_NoText dd_NoText x0_NoText x1_NoText x2_NoText x3_NoText x5_NoText "ValueError.__new__"))
  (xd_NoText:K.lookup N_NoText=some ⟨oc_NoText,od_NoText,.dict es_NoText ep_NoText,sl_NoText⟩)
  (xo_NoText:strKeys es_NoText=true)
  (xi_NoText:PySem.W.nsIn K N_NoText "__init__"=some none)
  (xk_NoText:PySem.W.isClsIn K X_NoText=true)
  (xt_NoText:PySem.W.typeIn K (.ref X_NoText)=some (.type "type"))
  (xs_NoText:PySem.W.subIn K (.ref X_NoText) (.ref X_NoText)=some true)
  (xn_NoText:PySem.W.subIn K (.type "NoneType") (.ref X_NoText)=some false)
  (xg_NoText:PySem.W.findIn K (.ref X_NoText) "__getattribute__"=some (some (.builtin "BaseException.__getattribute__")))
  (xx_NoText:PySem.W.findIn K (.ref X_NoText) "__getattr__"=some none)
  (xc_NoText:PySem.W.findIn K (.ref X_NoText) "__class__"=some (some (.builtin "object.__class__")))
  (xm_NoText:PySem.W.subIn K (.ref X_NoText) (.ref X_MirrorError)=some true)
  (xv_NoText:PySem.W.subIn K (.ref X_NoText) (.type "ValueError")=some true)
  (xa_NoCommand:PySem.W.nsIn K mainGlobals "NoCommand"=some (some (.ref X_NoCommand)))
  (xl_NoCommand:K.lookup X_NoCommand=some (excClassObj nm_NoCommand q_NoCommand X_NoCommand N_NoCommand bs_NoCommand (.ref X_MirrorError::vbm) hd_NoCommand sn_NoCommand sub_NoCommand ab_NoCommand col_NoCommand dd_NoCommand x0_NoCommand x1_NoCommand x2_NoCommand x3_NoCommand x5_NoCommand "ValueError.__new__"))
  (xd_NoCommand:K.lookup N_NoCommand=some ⟨oc_NoCommand,od_NoCommand,.dict es_NoCommand ep_NoCommand,sl_NoCommand⟩)
  (xo_NoCommand:strKeys es_NoCommand=true)
  (xi_NoCommand:PySem.W.nsIn K N_NoCommand "__init__"=some none)
  (xk_NoCommand:PySem.W.isClsIn K X_NoCommand=true)
  (xt_NoCommand:PySem.W.typeIn K (.ref X_NoCommand)=some (.type "type"))
  (xs_NoCommand:PySem.W.subIn K (.ref X_NoCommand) (.ref X_NoCommand)=some true)
  (xn_NoCommand:PySem.W.subIn K (.type "NoneType") (.ref X_NoCommand)=some false)
  (xp_NoText_NoBase:PySem.W.subIn K (.ref X_NoText) (.ref X_NoBase)=some false)
  (xp_NoText_NoCommand:PySem.W.subIn K (.ref X_NoText) (.ref X_NoCommand)=some false)
  (xp_NoText_NoMirror:PySem.W.subIn K (.ref X_NoText) (.ref X_NoMirror)=some false)
  (xp_NoText_NoNumber:PySem.W.subIn K (.ref X_NoText) (.ref X_NoNumber)=some false)
  (xp_NoText_NoPlace:PySem.W.subIn K (.ref X_NoText) (.ref X_NoPlace)=some false)
  (xp_NoText_NoWay:PySem.W.subIn K (.ref X_NoText) (.ref X_NoWay)=some false)
  (xnv:PySem.W.subIn K (.type "NoneType") (.type "ValueError")=some false)
  : ∃fd:FuncData,(∀(s:Shared) (v:Value),BindsTo s fd ⟨[v],[]⟩ [("script",v)])/\∀base:Heap,K.In base->base.Ns mainGlobals mg->FnOk l.prog w K mg base CX0 4 fa fd ["script"] (spOf K S_law):=by
 have e:=hfa.symm.trans (PySem.W.mg_of X G a11)
 cases e
 have T:Txt mg:=⟨PySem.W.mg_none_of X G z_isinstance,PySem.W.mg_none_of X G z_int,PySem.W.mg_none_of X G z_list,PySem.W.mg_none_of X G z_len,PySem.W.mg_none_of X G z_range,PySem.W.mg_none_of X G z_str,PySem.W.mg_none_of X G z_sorted,PySem.W.mg_none_of X G z_repr,PySem.W.mg_none_of X G z_all,PySem.W.mg_none_of X G z_ValueError,⟨t_MOST_FIGURES,PySem.W.mg_of X G y_MOST_FIGURES⟩,⟨t_FIGURES_OF_TEN,PySem.W.mg_of X G y_FIGURES_OF_TEN⟩,⟨t_WAY_OF_NONE,PySem.W.mg_of X G y_WAY_OF_NONE⟩⟩
 have xe_MirrorError:PySem.W.excIn K X_MirrorError vbm "ValueError.__new__"=true:=exc_base xl_MirrorError (nsOk_of xd_MirrorError xo_MirrorError) xi_MirrorError
 have xe_NoBase:PySem.W.excIn K X_NoBase vbm "ValueError.__new__"=true:=exc_sub xl_NoBase (nsOk_of xd_NoBase xo_NoBase) xi_NoBase xl_MirrorError (nsOk_of xd_MirrorError xo_MirrorError) xi_MirrorError
 have xe_NoNumber:PySem.W.excIn K X_NoNumber vbm "ValueError.__new__"=true:=exc_sub xl_NoNumber (nsOk_of xd_NoNumber xo_NoNumber) xi_NoNumber xl_MirrorError (nsOk_of xd_MirrorError xo_MirrorError) xi_MirrorError
 have xe_NoMirror:PySem.W.excIn K X_NoMirror vbm "ValueError.__new__"=true:=exc_sub xl_NoMirror (nsOk_of xd_NoMirror xo_NoMirror) xi_NoMirror xl_MirrorError (nsOk_of xd_MirrorError xo_MirrorError) xi_MirrorError
 have xe_NoPlace:PySem.W.excIn K X_NoPlace vbm "ValueError.__new__"=true:=exc_sub xl_NoPlace (nsOk_of xd_NoPlace xo_NoPlace) xi_NoPlace xl_MirrorError (nsOk_of xd_MirrorError xo_MirrorError) xi_MirrorError
 have xe_NoWay:PySem.W.excIn K X_NoWay vbm "ValueError.__new__"=true:=exc_sub xl_NoWay (nsOk_of xd_NoWay xo_NoWay) xi_NoWay xl_MirrorError (nsOk_of xd_MirrorError xo_MirrorError) xi_MirrorError
 have xe_NoText:PySem.W.excIn K X_NoText vbm "ValueError.__new__"=true:=exc_sub xl_NoText (nsOk_of xd_NoText xo_NoText) xi_NoText xl_MirrorError (nsOk_of xd_MirrorError xo_MirrorError) xi_MirrorError
 have xe_NoCommand:PySem.W.excIn K X_NoCommand vbm "ValueError.__new__"=true:=exc_sub xl_NoCommand (nsOk_of xd_NoCommand xo_NoCommand) xi_NoCommand xl_MirrorError (nsOk_of xd_MirrorError xo_MirrorError) xi_MirrorError
 have TX:XT K mg ⟨X_MirrorError,X_NoBase,X_NoNumber,X_NoMirror,X_NoPlace,X_NoWay,X_NoText,X_NoCommand⟩:=⟨⟨PySem.W.mg_of X G xa_MirrorError,xe_MirrorError⟩,⟨PySem.W.mg_of X G xa_NoBase,xe_NoBase⟩,⟨PySem.W.mg_of X G xa_NoNumber,xe_NoNumber⟩,⟨PySem.W.mg_of X G xa_NoMirror,xe_NoMirror⟩,⟨PySem.W.mg_of X G xa_NoPlace,xe_NoPlace⟩,⟨PySem.W.mg_of X G xa_NoWay,xe_NoWay⟩,⟨PySem.W.mg_of X G xa_NoText,xe_NoText⟩,⟨PySem.W.mg_of X G xa_NoCommand,xe_NoCommand⟩,⟨xe_NoText,xg_NoText,xx_NoText,xc_NoText⟩,xm_NoText,kit_ty (by kernel_rfl) xv_NoText (fun z=>by cases z),kit_ty (by kernel_rfl) xnv (fun z=>absurd (Value.type.inj z) (by decide)),kit_own xk_NoBase xt_NoBase xn_NoBase (fun z=>by cases z),kit_own xk_NoCommand xt_NoCommand xn_NoCommand (fun z=>by cases z),kit_own xk_NoMirror xt_NoMirror xn_NoMirror (fun z=>by cases z),kit_own xk_NoNumber xt_NoNumber xn_NoNumber (fun z=>by cases z),kit_own xk_NoPlace xt_NoPlace xn_NoPlace (fun z=>by cases z),kit_own xk_NoText xt_NoText xn_NoText (fun z=>by cases z),kit_own xk_NoWay xt_NoWay xn_NoWay (fun z=>by cases z),kit_own xk_NoBase xt_NoBase xp_NoText_NoBase (kit_ne xp_NoText_NoBase xs_NoBase),kit_own xk_NoCommand xt_NoCommand xp_NoText_NoCommand (kit_ne xp_NoText_NoCommand xs_NoCommand),kit_own xk_NoMirror xt_NoMirror xp_NoText_NoMirror (kit_ne xp_NoText_NoMirror xs_NoMirror),kit_own xk_NoNumber xt_NoNumber xp_NoText_NoNumber (kit_ne xp_NoText_NoNumber xs_NoNumber),kit_own xk_NoPlace xt_NoPlace xp_NoText_NoPlace (kit_ne xp_NoText_NoPlace xs_NoPlace),kit_own xk_NoText xt_NoText xs_NoText (fun _=>rfl),kit_own xk_NoWay xt_NoWay xp_NoText_NoWay (kit_ne xp_NoText_NoWay xs_NoWay)⟩
 let D1:A_law_deck K mg:=⟨f1,_,fun_mk (st:=s_law_deck) l1 c1 k1,PySem.W.mg_of X G a1,(fun_mk (st:=s_law_deck) l1 c1 k1).binds fun _ _ _ _ _ _ us hl=>len2 us hl fun _ _=>rfl⟩
 let D2:A_law_take K mg:=⟨f2,_,fun_mk (st:=s_law_take) l2 c2 k2,PySem.W.mg_of X G a2,(fun_mk (st:=s_law_take) l2 c2 k2).binds fun _ _ _ _ _ _ us hl=>len2 us hl fun _ _=>rfl⟩
 let D3:A_law_text K mg:=⟨f3,_,fun_mk (st:=s_law_text) l3 c3 k3,PySem.W.mg_of X G a3,(fun_mk (st:=s_law_text) l3 c3 k3).binds fun _ _ _ _ _ _ us hl=>len1 us hl fun _=>rfl⟩
 let D4:A_is_written K mg:=⟨f4,_,fun_mk (st:=s_is_written) l4 c4 k4,PySem.W.mg_of X G a4,(fun_mk (st:=s_is_written) l4 c4 k4).binds fun _ _ _ _ _ _ us hl=>len2 us hl fun _ _=>rfl⟩
 let D5:A_read_way K mg:=⟨f5,_,fun_mk (st:=s_read_way) l5 c5 k5,PySem.W.mg_of X G a5,(fun_mk (st:=s_read_way) l5 c5 k5).binds fun _ _ _ _ _ _ us hl=>len1 us hl fun _=>rfl⟩
 let D6:A_law_number_in K mg:=⟨f6,_,fun_mk (st:=s_law_number_in) l6 c6 k6,PySem.W.mg_of X G a6,(fun_mk (st:=s_law_number_in) l6 c6 k6).binds fun _ _ _ _ _ _ us hl=>len1 us hl fun _=>rfl⟩
 let D7:A_show_way K mg:=⟨f7,_,fun_mk (st:=s_show_way) l7 c7 k7,PySem.W.mg_of X G a7,(fun_mk (st:=s_show_way) l7 c7 k7).binds fun _ _ _ _ _ _ us hl=>len1 us hl fun _=>rfl⟩
 let D8:A_law_right K mg:=⟨f8,_,fun_mk (st:=s_law_right) l8 c8 k8,PySem.W.mg_of X G a8,(fun_mk (st:=s_law_right) l8 c8 k8).binds fun _ _ _ _ _ _ us hl=>len1 us hl fun _=>rfl⟩
 let D9:A_law_bad K mg:=⟨f9,_,fun_mk (st:=s_law_bad) l9 c9 k9,PySem.W.mg_of X G a9,(fun_mk (st:=s_law_bad) l9 c9 k9).binds fun _ _ _ _ _ _ us hl=>len1 us hl fun _=>rfl⟩
 let D10:A_law_spoilt K mg:=⟨f10,_,fun_mk (st:=s_law_spoilt) l10 c10 k10,PySem.W.mg_of X G a10,(fun_mk (st:=s_law_spoilt) l10 c10 k10).binds fun _ _ _ _ _ _ us hl=>len2 us hl fun _ _=>rfl⟩
 let D11:DefAt K mg "law" s_law ["script"]:=⟨fa,_,fun_mk (st:=s_law) l11 c11 k11,PySem.W.mg_of X G a11,(fun_mk (st:=s_law) l11 c11 k11).binds fun _ _ _ _ _ _ us hl=>len1 us hl fun _=>rfl⟩
 exact ⟨D11.fd,fun s v=>.of_eq rfl,fun base _ _=>ok_law T TX D11 D1 D2 D3 D4 D5 D6 D7 D8 D9 D10⟩
theorem walk {l:PySem.W.OpenLaw} {q:Program} {loose:List Str} {XP:(Str->Option Value)->Heap->Prop} {YP:World->Heap->Prop} {d:DefRec} {K:Params->PySem.W.Frag} (hn:l.most=some 63) (hdf:d.params.defaults=[])
  (hY:∀(w:World) (h:Heap),YP w h->(K w.params).In h)
  (F:∀(w:World) (mg:Str->Option Value) (fa:Addr) (h:Heap),(K w.params).In h->h.Ns mainGlobals mg->mg d.name=some (.ref fa)->
   ∃fd:FuncData,(∀(s:Shared) (u:Value),BindsTo s fd ⟨[u],[]⟩ [("script",u)])/\∀base:Heap,(K w.params).In base->base.Ns mainGlobals mg->FnOk l.prog w (K w.params) mg base CX0 4 fa fd ["script"] (spOf (K w.params) S_law)) :
  PySem.W.WalkO q loose XP YP l.row.toRowW d [] (fun f vs=>PySem.call f vs):=
 L2.walk_of (n:=63) (k:=4) (x:="script") (CX:=fun _=>CX0) (sp:=fun w=>spOf (K w.params) S_law) hn (by decide) hdf ⟨rfl,by decide,by decide,rfl⟩ hY F (fun _ _ a ns hl _ hS=>sp_start hl hS) fun _ _ _ _ _ z=>z
end K46
namespace PySem.W.Fast
def tw17010189126385096367:=()
def tw15369315478774984097:=()
def tw7214744213339267908:=()
def tw11739108262832284710:=()
def tw13369265278551066577:=()
def tw5887463525023652115:=()
def tw5860559056895099822:=()
def tw17809481287477447353:=()
def tw17871879220030862443:=()
def tw1813759870867768614:=()
def tw14857595842231751256:=()
def tw11496400561062550047:=()
def tw11217996017172488732:=()
def tw6524127053066514461:=()
def tw16498007580032077106:=()
def tw10883719882876430111:=()
def tw1706483229224835951:=()
def tw13011764064776771877:=()
def tw17875161528609372587:=()
def tw16058949995300744577:=()
def tw10393534786233304776:=()
def tw1042547666645484153:=()
def tw1260416572482549183:=()
def tw3167250519315442091:=()
def tw8351936861545783547:=()
def tw15783190111078610281:=()
def tw14311556010407722184:=()
def tw12401479632406746347:=()
def tw8994532300269189992:=()
def tw11193991633744236128:=()
def tw7921194582942835805:=()
def tw5000846291009341678:=()
def tw13693424122978893433:=()
def tw9044845860716104438:=()
def tw14364227587159445244:=()
def tw15036820443032769011:=()
def tw10434623856286741673:=()
def tw4101900151348867684:=()
def tw14339622830636500734:=()
def tw10403702943215263632:=()
def tw7486747981918567732:=()
def tw3965855609383380030:=()
def tw5681123942876749129:=()
def tw3954072159932857660:=()
def tw11751360460411713204:=()
def tw7732636933039617457:=()
def tw17155491473908396760:=()
def tw13605244781019198871:=()
def tw13313446466761760941:=()
def tw11078260627807214524:=()
def tw11807449689927012739:=()
def tw6716434329727255663:=()
def tw16520780376536158188:=()
def tw2852338122425439186:=()
def tw13346228969121574708:=()
def tw8291912579756239813:=()
def tw8586829559338196591:=()
def tw4875612007308031509:=()
def tw2798527770475871621:=()
def tw6840013146208466467:=()
def tw14632713795658721504:=()
def tw11461537071894403317:=()
def tw16444852347051674332:=()
def tw17459929731026716863:=()
def tw5269960914136565737:=()
def tw588622080167067652:=()
def tw5224714466419533880:=()
def tw2240218561118939801:=()
def tw896412234409600433:=()
def tw17695391412726529031:=()
def tw13726577795853395759:=()
def tw6504161985041936362:=()
def tw17441289961077921291:=()
def tw1318245209260083018:=()
def tw10881134032486095298:=()
def tw5240222867081290056:=()
def tw7940211923943488015:=()
def tw8370380967693781164:=()
def tw8076680651593644273:=()
def tw4436025829342720925:=()
def tw4930719447240611425:=()
def tw423217429896371564:=()
def tw3314344744816056590:=()
def tw9324155611907634880:=()
def tw9033503964951936198:=()
def tw7122559146472006897:=()
def tw15141175856699644097:=()
def tw9964344117284701226:=()
def tw15427355731061064967:=()
def tw5068747279053971251:=()
def tw9377543094961132463:=()
def tw11525159676996672458:=()
def tw77973674999121758:=()
def tw8506661408142930423:=()
def tw5497366614748284756:=()
def tw2917523372764014307:=()
def tw18331333919363588317:=()
def tw3928842882762330939:=()
def tw16131436517042089478:=()
def tw547055824611310848:=()
def tw10577077547026234802:=()
def tw6270316921135364163:=()
def tw12113263004680373100:=()
def tw17372137641421266839:=()
def tw6110000207590321386:=()
def tw13435610677728038788:=()
def tw16934593982528806282:=()
def tw6961364146434877910:=()
def tw4499932320259773356:=()
def tw13968206706630955418:=()
def tw7799645958816215412:=()
def tw3110428794087870337:=()
def tw4669068945296941263:=()
def tw2850349541250893412:=()
def tw10423072758889153589:=()
def tw3252958434514296475:=()
def tw11314903373035091976:=()
def tw8670349817755200948:=()
def tw9053730772458128223:=()
def tw12499678345533161740:=()
def tw9462872873566053681:=()
def tw3435521493947520391:=()
def tw4226102626619613360:=()
def tw2003638405577014698:=()
def tw5058056768137097418:=()
def tw11631050567031603322:=()
def tw8234568835249067617:=()
def tw12012298032482095346:=()
def tw15956271928891772181:=()
def tw12260594813727189135:=()
def tw836940221458006903:=()
def tw18233324839782446194:=()
def tw13282380671008417590:=()
def tw3069156850562903939:=()
def tw6516056847625434004:=()
def tw1497021377191617664:=()
def tw12638186309851530160:=()
def tw5209694889862305180:=()
def tw9360309618915317781:=()
def tw9246198919894935273:=()
def tw5174979189400211162:=()
def tw8983882645097146038:=()
def tw11036244702004698139:=()
def tw13579108553319270953:=()
def tw7547830111538804625:=()
def tw17201336267317864681:=()
def tw4298219045841101824:=()
def tw10249126834421188346:=()
def tw6762430148022889912:=()
def tw10690278781104744961:=()
def tw3637431739502597774:=()
def tw16583355517270246322:=()
def tw14276358128606534081:=()
def tw6245216957206240250:=()
def tw6744697806594483413:=()
def tw18096288039133730998:=()
def tw15520007627047957451:=()
def tw16160643580530156818:=()
def tw17084457243666515375:=()
def tw1683028077192181707:=()
def tw12933860669031505605:=()
def tw3434119973457541173:=()
def tw15124837960866605355:=()
def tw2662153719660126952:=()
def tw5505422369239333970:=()
def tw13488564598857441155:=()
def tw11735914379112984212:=()
def tw15966625406304500408:=()
def tw11137285459515738252:=()
def tw5529172954106282541:=()
def tw18285943883572971961:=()
def tw7068718418249404441:=()
def tw17656390256540138805:=()
def tw1827394340202836933:=()
def tw3745724240149257727:=()
def tw10571516902476949265:=()
def tw10724524397299159661:=()
def tw17184303017169932440:=()
def tw16693445282261312033:=()
def tw5903309373537129447:=()
def tw9844542757684659494:=()
def tw11258441575022182116:=()
def tw3178463497508465350:=()
def tw3796651387026030750:=()
def tw12425865601332705791:=()
def tw13820823902354442672:=()
def tw7416585522757923146:=()
def tw11253193243862717065:=()
def tw1535447659280820193:=()
def tw3601784154030395015:=()
def tw9212133221329915940:=()
def tw12541462642766213540:=()
def tw14868190560920358371:=()
def tw11020184844845430063:=()
def tw12981630929566582686:=()
def tw6477054919126017909:=()
def tw13743943389504802088:=()
def tw17420308507257660004:=()
end PySem.W.Fast
open PySem PySem.W PyProof.Rows
set_option maxRecDepth 100000 in
set_option maxHeartbeats 0 in
theorem PySem.Challenge.cw_mirrorsums_k46_texts_of_no_way_holds : PySem.Challenge.rw_mirrorsums_k46_texts_of_no_way.Holds := by
 w_on;o_law;k_head;(case hw=>w_witness2)
 k_fill
 refine K46.walk (l:=PySem.Challenge.rw_mirrorsums_k46_texts_of_no_way) rfl rfl (fun w h Y=>PySem.W.kIn_of Y) ?F
 case F=>
  intro w mg fa h KX G hmg
  refine' K46.all_mk KX G hmg ?a1 ?l1 ?c1 ?k1 ?a2 ?l2 ?c2 ?k2 ?a3 ?l3 ?c3 ?k3 ?a4 ?l4 ?c4 ?k4 ?a5 ?l5 ?c5 ?k5 ?a6 ?l6 ?c6 ?k6 ?a7 ?l7 ?c7 ?k7 ?a8 ?l8 ?c8 ?k8 ?a9 ?l9 ?c9 ?k9 ?a10 ?l10 ?c10 ?k10 ?a11 ?l11 ?c11 ?k11 ?z_isinstance ?z_int ?z_list ?z_len ?z_range ?z_str ?z_sorted ?z_repr ?z_all ?z_ValueError ?y_MOST_FIGURES ?y_FIGURES_OF_TEN ?y_WAY_OF_NONE ?xa_MirrorError ?xl_MirrorError ?xd_MirrorError ?xo_MirrorError ?xi_MirrorError ?xa_NoBase ?xl_NoBase ?xd_NoBase ?xo_NoBase ?xi_NoBase ?xk_NoBase ?xt_NoBase ?xs_NoBase ?xn_NoBase ?xa_NoNumber ?xl_NoNumber ?xd_NoNumber ?xo_NoNumber ?xi_NoNumber ?xk_NoNumber ?xt_NoNumber ?xs_NoNumber ?xn_NoNumber ?xa_NoMirror ?xl_NoMirror ?xd_NoMirror ?xo_NoMirror ?xi_NoMirror ?xk_NoMirror ?xt_NoMirror ?xs_NoMirror ?xn_NoMirror ?xa_NoPlace ?xl_NoPlace ?xd_NoPlace ?xo_NoPlace ?xi_NoPlace ?xk_NoPlace ?xt_NoPlace ?xs_NoPlace ?xn_NoPlace ?xa_NoWay ?xl_NoWay ?xd_NoWay ?xo_NoWay ?xi_NoWay ?xk_NoWay ?xt_NoWay ?xs_NoWay ?xn_NoWay ?xa_NoText ?xl_NoText ?xd_NoText ?xo_NoText ?xi_NoText ?xk_NoText ?xt_NoText ?xs_NoText ?xn_NoText ?xg_NoText ?xx_NoText ?xc_NoText ?xm_NoText ?xv_NoText ?xa_NoCommand ?xl_NoCommand ?xd_NoCommand ?xo_NoCommand ?xi_NoCommand ?xk_NoCommand ?xt_NoCommand ?xs_NoCommand ?xn_NoCommand ?xp_NoText_NoBase ?xp_NoText_NoCommand ?xp_NoText_NoMirror ?xp_NoText_NoNumber ?xp_NoText_NoPlace ?xp_NoText_NoWay ?xnv
  (case a1=>k_is)
  (case l1=>k_is)
  (case c1=>k_is)
  (case k1=>k_is)
  (case a2=>k_is)
  (case l2=>k_is)
  (case c2=>k_is)
  (case k2=>k_is)
  (case a3=>k_is)
  (case l3=>k_is)
  (case c3=>k_is)
  (case k3=>k_is)
  (case a4=>k_is)
  (case l4=>k_is)
  (case c4=>k_is)
  (case k4=>k_is)
  (case a5=>k_is)
  (case l5=>k_is)
  (case c5=>k_is)
  (case k5=>k_is)
  (case a6=>k_is)
  (case l6=>k_is)
  (case c6=>k_is)
  (case k6=>k_is)
  (case a7=>k_is)
  (case l7=>k_is)
  (case c7=>k_is)
  (case k7=>k_is)
  (case a8=>k_is)
  (case l8=>k_is)
  (case c8=>k_is)
  (case k8=>k_is)
  (case a9=>k_is)
  (case l9=>k_is)
  (case c9=>k_is)
  (case k9=>k_is)
  (case a10=>k_is)
  (case l10=>k_is)
  (case c10=>k_is)
  (case k10=>k_is)
  (case a11=>k_is)
  (case l11=>k_is)
  (case c11=>k_is)
  (case k11=>k_is)
  (case z_isinstance=>k_is)
  (case z_int=>k_is)
  (case z_list=>k_is)
  (case z_len=>k_is)
  (case z_range=>k_is)
  (case z_str=>k_is)
  (case z_sorted=>k_is)
  (case z_repr=>k_is)
  (case z_all=>k_is)
  (case z_ValueError=>k_is)
  (case y_MOST_FIGURES=>k_is)
  (case y_FIGURES_OF_TEN=>k_is)
  (case y_WAY_OF_NONE=>k_is)
  (case xa_MirrorError=>k_is)
  (case xl_MirrorError=>k_is)
  (case xd_MirrorError=>k_is)
  (case xo_MirrorError=>rfl)
  (case xi_MirrorError=>k_is)
  (case xa_NoBase=>k_is)
  (case xl_NoBase=>k_is)
  (case xd_NoBase=>k_is)
  (case xo_NoBase=>rfl)
  (case xi_NoBase=>k_is)
  (case xk_NoBase=>k_is)
  (case xt_NoBase=>k_is)
  (case xs_NoBase=>k_is)
  (case xn_NoBase=>k_is)
  (case xa_NoNumber=>k_is)
  (case xl_NoNumber=>k_is)
  (case xd_NoNumber=>k_is)
  (case xo_NoNumber=>rfl)
  (case xi_NoNumber=>k_is)
  (case xk_NoNumber=>k_is)
  (case xt_NoNumber=>k_is)
  (case xs_NoNumber=>k_is)
  (case xn_NoNumber=>k_is)
  (case xa_NoMirror=>k_is)
  (case xl_NoMirror=>k_is)
  (case xd_NoMirror=>k_is)
  (case xo_NoMirror=>rfl)
  (case xi_NoMirror=>k_is)
  (case xk_NoMirror=>k_is)
  (case xt_NoMirror=>k_is)
  (case xs_NoMirror=>k_is)
  (case xn_NoMirror=>k_is)
  (case xa_NoPlace=>k_is)
  (case xl_NoPlace=>k_is)
  (case xd_NoPlace=>k_is)
  (case xo_NoPlace=>rfl)
  (case xi_NoPlace=>k_is)
  (case xk_NoPlace=>k_is)
  (case xt_NoPlace=>k_is)
  (case xs_NoPlace=>k_is)
  (case xn_NoPlace=>k_is)
  (case xa_NoWay=>k_is)
  (case xl_NoWay=>k_is)
  (case xd_NoWay=>k_is)
  (case xo_NoWay=>rfl)
  (case xi_NoWay=>k_is)
  (case xk_NoWay=>k_is)
  (case xt_NoWay=>k_is)
  (case xs_NoWay=>k_is)
  (case xn_NoWay=>k_is)
  (case xa_NoText=>k_is)
  (case xl_NoText=>k_is)
  (case xd_NoText=>k_is)
  (case xo_NoText=>rfl)
  (case xi_NoText=>k_is)
  (case xk_NoText=>k_is)
  (case xt_NoText=>k_is)
  (case xs_NoText=>k_is)
  (case xn_NoText=>k_is)
  (case xg_NoText=>k_is)
  (case xx_NoText=>k_is)
  (case xc_NoText=>k_is)
  (case xm_NoText=>k_is)
  (case xv_NoText=>k_is)
  (case xa_NoCommand=>k_is)
  (case xl_NoCommand=>k_is)
  (case xd_NoCommand=>k_is)
  (case xo_NoCommand=>rfl)
  (case xi_NoCommand=>k_is)
  (case xk_NoCommand=>k_is)
  (case xt_NoCommand=>k_is)
  (case xs_NoCommand=>k_is)
  (case xn_NoCommand=>k_is)
  (case xp_NoText_NoBase=>k_is)
  (case xp_NoText_NoCommand=>k_is)
  (case xp_NoText_NoMirror=>k_is)
  (case xp_NoText_NoNumber=>k_is)
  (case xp_NoText_NoPlace=>k_is)
  (case xp_NoText_NoWay=>k_is)
  (case xnv=>k_is)
